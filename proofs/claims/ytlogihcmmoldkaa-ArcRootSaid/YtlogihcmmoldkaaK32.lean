/-
  ring: Clean: what it returns. Condition: the list is not longer than 2^40.
-/
import Derived.Test.YtlogihcmmoldkaaK31
namespace Go.Proofs.Ytlogihcmmoldkaa.W
open Go.RowKit Go.Proofs.Ytlogihcmmoldkaa.V Go.Proofs.Ytlogihcmmoldkaa.G


def lenV : Value → Nat
  | .slice _ n _ => n
  | _ => 0
theorem clean_len : ∀ (f : Nat) (l : List Pt), (cleanTo f l).length ≤ l.length
  | 0, l => Nat.le_refl _
  | f + 1, l => by
    unfold cleanTo
    split
    · rename_i h
      have := clean_len f (l.eraseIdx (need l))
      rw [List.length_eraseIdx_of_lt h] at this
      omega
    · exact Nat.le_refl _
theorem own_shape {w0 w : World} {v : Value} {l : List (Int × Int)} (h : OwnL w0 w v l) : ∃ A c, v = .slice A l.length c := h.src.shape
theorem own_back {w0 w1 w2 : World} {v : Value} {l : List (Int × Int)} (h : OwnL w1 w2 v l) (k : Nw w0 w1) : OwnL w0 w2 v l := by
  rcases h with ⟨kk, cap, h1, h2, h3⟩ | h
  · exact .inl ⟨kk, cap, h1, Nat.le_trans k.size h2, h3⟩
  · exact .inr h

set_option maxRecDepth 100000 in
set_option maxHeartbeats 6400000 in
theorem clean_any (l : List (Int × Int)) (v : Value) (w : World) (hv : SrcV w v l) (hl : l.length ≤ 1099511627776) : Calls Try.prog 34 #[v] w fun e w' => ∃ v', e = .returned (.tuple #[v', .int .i64 (cleanR l).2]) ∧ OwnL w w' v' (cleanR l).1 ∧ Nw w w' := by
  have hmix := mixed7
  have cw := isWithinL_any l v w hv
  have cc := fun w1 (h : Nw w w1) => vclone_any l v w1 (hv.nw h) hl
  obtain ⟨A, c, rfl⟩ := hv.shape
  obtain ⟨n, hn⟩ : ∃ n, l.length = n := ⟨_, rfl⟩
  rw [hn] at cw cc hl ⊢
  by_cases h200 : 200 < n
  · have hi : (200 : Int) < (n : Int) := by omega
    rw [show cleanR l = ([], 9) by unfold cleanR; rw [hn, if_pos h200]]
    clear hv cc cw
    go_enter Try.func34, Try.ntmps34
    go_wp2_with fail
    go_ret2
    exact ⟨_, rfl, .inr ⟨rfl, none, 0, rfl, Nat.zero_le _⟩, Kp.refl _ _⟩
  have hi : ¬ ((200 : Int) < (n : Int)) := by omega
  obtain ⟨b, hb⟩ : ∃ b, allW l = b := ⟨_, rfl⟩
  rw [hb] at cw
  cases b with
  | false =>
    rw [show cleanR l = ([], 2) by unfold cleanR; rw [hn, if_neg h200, hb]; rfl]
    clear hv cc hb h200
    go_enter Try.func34, Try.ntmps34
    go_wp2_with fail
    with_reducible refine cw.mono ?_
    rintro e w1 ⟨rfl, k1⟩
    go_wp2_with fail
    go_ret2
    exact ⟨_, rfl, .inr ⟨rfl, none, 0, rfl, Nat.zero_le _⟩, k1⟩
  | true =>
    have hR : cleanR l = if !validR (turnedL (cleanL l)) then ([], 11) else (beginL (turnedL (cleanL l)), 0) := by unfold cleanR; rw [hn, if_neg h200, hb]; rfl
    have HR := Lib.hid hR
    have HN := Lib.hid hn
    have H200 := Lib.hid h200
    clear hv hb hR hn h200 hl
    go_enter Try.func34, Try.ntmps34
    go_wp2_with fail
    with_reducible refine cw.mono ?_
    rintro e w1 ⟨rfl, k1⟩
    go_wp2_with fail
    with_reducible refine (cc _ k1).mono ?_
    rintro e w2 ⟨v2, rfl, o2, k2⟩
    have o2' := own_back o2 k1
    have HK2 := Lib.hid (k1.tr k2)
    have HO2 := Lib.hid o2'
    clear o2 k1 k2 cc cw o2'
    go_wp2_with fail
    with_reducible refine (needless_any l v2 _ HO2.out.src (by have := HN.out; have := H200.out; omega)).mono ?_
    rintro e w3 ⟨rfl, k3⟩
    have HK3 := Lib.hid (HK2.out.tr k3)
    have HO3 := Lib.hid (HO2.out.nw k3)
    clear k3
    go_wp2_with fail
    go_loopw [4, 5] (fun r i wr => ∃ m : List (Int × Int), i = .int .i64 (need m) ∧ OwnL w wr r m ∧ cleanL m = cleanL l ∧ m.length ≤ n ∧ Nw w wr) (fun r i _ => lenV r)
    case atStart => exact ⟨l, rfl, HO3.out, rfl, by rw [HN.out]; exact Nat.le_refl _, HK3.out⟩
    case round =>
      obtain ⟨m, rfl, ho, hcl, hmn, hnw⟩ := hrel
      obtain ⟨A1, c1, rfl⟩ := own_shape ho
      have HO := Lib.hid ho
      have HK := Lib.hid hnw
      have HCL := Lib.hid hcl
      have HMN := Lib.hid hmn
      have hmb : m.length ≤ 1099511627776 := by have := H200.out; omega
      clear ho hnw hcl hmn
      by_cases hne : need m < m.length
      · have i1 : ((need m : Nat) : Int) < ((m.length : Nat) : Int) := by omega
        obtain ⟨k, hk⟩ : ∃ k, need m = k := ⟨_, rfl⟩
        obtain ⟨J, hJ⟩ : ∃ J, k + 1 = J := ⟨_, rfl⟩
        have a4 : IntKind.i64.wrap ((k : Int) + 1) = (J : Int) := by rw [IntKind.wrap_i64]; omega
        have cd := sDelete_any m _ w wr HO.out HK.out hmb k J (by rw [← hk]; exact hne) hJ
        have HC2 := Lib.hid (show cleanL (m.eraseIdx k) = cleanL l by rw [← HCL.out, ← hk]; exact clean_step hne)
        have HE := Lib.hid (show (m.eraseIdx k).length = m.length - 1 ∧ 0 < m.length by exact ⟨List.length_eraseIdx_of_lt (by rw [← hk]; exact hne), by omega⟩)
        rw [hk] at i1 ⊢
        clear hk hJ
        go_wp2_with fail
        with_reducible refine cd.mono ?_
        rintro e w4 ⟨v4, rfl, o4, k4⟩
        have HO4 := Lib.hid o4
        have HK4 := Lib.hid k4
        clear o4 k4 cd
        go_wp2_with fail
        with_reducible refine (needless_any (m.eraseIdx k) v4 _ HO4.out.src (by have := HE.out.1; omega)).mono ?_
        rintro e w5 ⟨rfl, k5⟩
        obtain ⟨A5, c5, rfl⟩ := own_shape HO4.out
        go_wp2_with fail
        go_roundw
        case rel => exact ⟨_, rfl, HO4.out.nw k5, HC2.out, by have := HE.out.1; have := HMN.out; omega, HK4.out.tr k5⟩
        case measure => (have := HE.out; simp [lenV]; omega)
      · have i1 : ¬ (((need m : Nat) : Int) < ((m.length : Nat) : Int)) := by omega
        obtain ⟨C, hC⟩ : ∃ C, cleanL l = C := ⟨_, rfl⟩
        have hmC : m = C := by rw [← hC, ← HCL.out, clean_end hne]
        subst hmC
        have HR2 := Lib.hid (show cleanR l = if !validR (turnedL m) then ([], 11) else (beginL (turnedL m), 0) by rw [HR.out, hC])
        clear hC
        go_wp2_with fail
        with_reducible refine (dArea_any m _ _ HO.out.src hmb).mono ?_
        rintro e w4 ⟨rfl, k4⟩
        have HK4 := Lib.hid (HK.out.tr k4)
        have HO4 := Lib.hid (HO.out.nw k4)
        clear k4
        obtain ⟨a, ha⟩ : ∃ a, areaP m = a := ⟨_, rfl⟩
        rw [ha]
        obtain ⟨T, hT⟩ : ∃ T, turnedL m = T := ⟨_, rfl⟩
        have HTL := Lib.hid (show T.length ≤ 1099511627776 by
          rw [← hT]; unfold turnedL; split
          · rw [List.length_reverse]; exact hmb
          · exact hmb)
        have HR3 := Lib.hid (show cleanR l = if !validR T then ([], 11) else (beginL T, 0) by rw [HR2.out, hT])
        have hT2 : T = if a < 0 then m.reverse else m := by rw [← hT, ← ha]; rfl
        have HTT := Lib.hid hT2
        clear ha hT hT2 HR2 i1 hne HR
        by_cases h0 : a < 0
        · go_wp2_with fail
          with_reducible refine (sReverse_any m _ w w4 HO4.out HK4.out hmb).mono ?_
          rintro e w5 ⟨rfl, o5, k5⟩
          rw [show m.reverse = T by rw [HTT.out, if_pos h0]] at o5
          have HO5 := Lib.hid o5
          have HK5 := Lib.hid k5
          clear o5 k5
          go_wp2_with fail
          with_reducible refine (ringValid_any T _ _ HO5.out.src HTL.out).mono ?_
          rintro e w6 ⟨rfl, k6⟩
          have HO6 := Lib.hid (HO5.out.nw k6)
          have HK6 := Lib.hid (HK5.out.tr k6)
          clear k6
          obtain ⟨b, hb⟩ : ∃ b, validR T = b := ⟨_, rfl⟩
          rw [hb]
          have HB := Lib.hid hb
          clear hb
          cases b
          · go_wp2_with fail
            go_ret2
            rw [HR3.out, HB.out]
            exact ⟨_, rfl, .inr ⟨rfl, none, 0, rfl, Nat.zero_le _⟩, HK6.out⟩
          · go_wp2_with fail
            with_reducible refine (canon_any T _ _ HO6.out.src HTL.out).mono ?_
            rintro e w7 ⟨v7, rfl, o7, k7⟩
            go_wp2_with fail
            go_ret2
            rw [HR3.out, HB.out]
            rw [show canonR T = beginL T by unfold canonR; rw [HB.out]; rfl] at o7
            exact ⟨_, rfl, own_back o7 HK6.out, HK6.out.tr k7⟩
        · have hmT := Lib.hid (show m = T by rw [HTT.out, if_neg h0])
          have HO5 := Lib.hid (show OwnL w w4 (.slice A1 m.length c1) T by rw [← hmT.out]; exact HO4.out)
          have HK5 := Lib.hid HK4.out
          go_wp2_with fail
          with_reducible refine (ringValid_any T _ _ HO5.out.src HTL.out).mono ?_
          rintro e w6 ⟨rfl, k6⟩
          have HO6 := Lib.hid (HO5.out.nw k6)
          have HK6 := Lib.hid (HK5.out.tr k6)
          clear k6
          obtain ⟨b, hb⟩ : ∃ b, validR T = b := ⟨_, rfl⟩
          rw [hb]
          have HB := Lib.hid hb
          clear hb
          cases b
          · go_wp2_with fail
            go_ret2
            rw [HR3.out, HB.out]
            exact ⟨_, rfl, .inr ⟨rfl, none, 0, rfl, Nat.zero_le _⟩, HK6.out⟩
          · go_wp2_with fail
            with_reducible refine (canon_any T _ _ HO6.out.src HTL.out).mono ?_
            rintro e w7 ⟨v7, rfl, o7, k7⟩
            go_wp2_with fail
            go_ret2
            rw [HR3.out, HB.out]
            rw [show canonR T = beginL T by unfold canonR; rw [HB.out]; rfl] at o7
            exact ⟨_, rfl, own_back o7 HK6.out, HK6.out.tr k7⟩

end Go.Proofs.Ytlogihcmmoldkaa.W
