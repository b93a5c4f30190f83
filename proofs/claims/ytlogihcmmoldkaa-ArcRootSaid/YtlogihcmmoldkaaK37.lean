/-
  ring: the reference's Clean: it returns what the program's does. Condition: the list is not longer than 2^40.
-/
import Derived.Test.YtlogihcmmoldkaaK33
import Derived.Test.YtlogihcmmoldkaaK35
import Derived.Test.YtlogihcmmoldkaaK36
import Derived.Test.YtlogihcmmoldkaaK32
namespace Go.Proofs.Ytlogihcmmoldkaa.W
open Go.RowKit Go.Proofs.Ytlogihcmmoldkaa.V Go.Proofs.Ytlogihcmmoldkaa.G


set_option maxRecDepth 100000 in
set_option maxHeartbeats 12800000 in
theorem rclean8_any (l : List (Int × Int)) (v : Value) (w : World) (hv : SrcV w v l) (hl : l.length ≤ 1099511627776) : Calls Try.prog 35 #[v] w fun e w' => ∃ v', e = .returned (.tuple #[v', .int .i64 (cleanR l).2]) ∧ SrcV w' v' (cleanR l).1 ∧ Nw w w' := by
  have hmix := mixed7
  have cw := rwithinL_any l v w hv
  obtain ⟨A, c, rfl⟩ := hv.shape
  obtain ⟨n, hn⟩ : ∃ n, l.length = n := ⟨_, rfl⟩
  replace hv := src_n hv hn
  rw [hn] at cw hl ⊢
  by_cases h200 : 200 < n
  · have hi : (200 : Int) < (n : Int) := by omega
    rw [show cleanR l = ([], 9) by unfold cleanR; rw [hn, if_pos h200]]
    clear hv cw
    go_enter Try.func35, Try.ntmps35
    go_wp2_with fail
    go_ret2
    exact ⟨_, rfl, src_none _ _ _ (Nat.zero_le _), Kp.refl _ _⟩
  have hi : ¬ ((200 : Int) < (n : Int)) := by omega
  obtain ⟨b, hb⟩ : ∃ b, allW l = b := ⟨_, rfl⟩
  rw [hb] at cw
  cases b with
  | false =>
    rw [show cleanR l = ([], 2) by unfold cleanR; rw [hn, if_neg h200, hb]; rfl]
    clear hv hb h200
    go_enter Try.func35, Try.ntmps35
    go_wp2_with fail
    with_reducible refine cw.mono ?_
    rintro e w1 ⟨rfl, k1⟩
    go_wp2_with fail
    go_ret2
    exact ⟨_, rfl, src_none _ _ _ (Nat.zero_le _), k1⟩
  | true =>
    have HR := Lib.hid (show cleanR l = if !validR (turnedL (cleanL l)) then ([], 11) else (beginL (turnedL (cleanL l)), 0) by unfold cleanR; rw [hn, if_neg h200, hb]; rfl)
    have HN := Lib.hid hn
    have HV := Lib.hid hv
    have H200 := Lib.hid h200
    clear hv hb hn h200 hl
    go_enter Try.func35, Try.ntmps35
    go_wp2_with fail
    with_reducible refine cw.mono ?_
    rintro e w1 ⟨rfl, k1⟩
    have HK1 := Lib.hid k1
    have hB1 : w1.heap.size ≤ w1.heap.size := Nat.le_refl _
    clear k1 cw
    go_wp2_with (at_builtin; refine wp_appG rfl (.tmp 12) (.tmp 13) 27 23 2 16 (.agg #[.int .i64 0, .int .i64 0]) rfl Try.underlying27 infoVec rfl (by omega) w1.heap.size 0 n _ _ [] (l.flatMap vC) (by rfl) (own_lit_at w1 w1.heap.size rfl (Nat.le_refl _)) (by rfl) (HV.out.nw (HK1.out.alloc _)) (flatV_one _) (by have := H200.out; omega) (by have := H200.out; omega) (by simp) ?_; intro v2 w2 own2 gr2)
    simp only [Nat.zero_add, List.nil_append] at own2
    have HK2 := Lib.hid (HK1.out.tr (gr2.nw (nw_alloc w1 _) (by intro kk hkk; simp [Value.ownBlock] at hkk; omega)))
    have HO2 := Lib.hid (show SrcV w2 v2 l by show Src _ 2 _ l.length _; rw [HN.out]; exact own_src own2)
    clear own2 gr2
    go_wp2_with fail
    with_reducible refine (extra_any l v2 _ HO2.out (by have := HN.out; have := H200.out; omega)).mono ?_
    rintro e w3 ⟨rfl, k3⟩
    have HK3 := Lib.hid (HK2.out.tr k3)
    have HO3 := Lib.hid (HO2.out.nw k3)
    clear k3
    obtain ⟨x0, hx0⟩ : ∃ x : Int, (if need l < l.length then (need l : Int) else -1) = x := ⟨_, rfl⟩
    rw [hx0]
    have HX0 := Lib.hid hx0
    clear hx0
    go_wp2_with fail
    go_loopw [4, 5] (fun r i wr => ∃ (m : List (Int × Int)) (x : Int), i = .int .i64 x ∧ (if need m < m.length then (need m : Int) else -1) = x ∧ SrcV wr r m ∧ cleanL m = cleanL l ∧ m.length ≤ n ∧ Nw w wr) (fun r i _ => lenV r)
    case atStart => exact ⟨l, x0, rfl, HX0.out, HO3.out, rfl, by rw [HN.out]; exact Nat.le_refl _, HK3.out⟩
    case round =>
      obtain ⟨m, x, rfl, hx, ho, hcl, hmn, hnw⟩ := hrel
      obtain ⟨A1, c1, rfl⟩ := ho.shape
      have HO := Lib.hid ho
      have HK := Lib.hid hnw
      have HCL := Lib.hid hcl
      have HMN := Lib.hid hmn
      have hmb : m.length ≤ 1099511627776 := by have := H200.out; omega
      have hm2 : m.length ≤ 200 := by have := H200.out; omega
      clear ho hnw hcl hmn
      by_cases hne : need m < m.length
      · rw [if_pos hne] at hx
        subst hx
        obtain ⟨k, hk⟩ : ∃ k, need m = k := ⟨_, rfl⟩
        obtain ⟨J, hJ⟩ : ∃ J, k + 1 = J := ⟨_, rfl⟩
        obtain ⟨q, hq⟩ : ∃ q, m.length = q := ⟨_, rfl⟩
        have HC2 := Lib.hid (show cleanL (m.eraseIdx k) = cleanL l by rw [← HCL.out, ← hk]; exact clean_step hne)
        have HE := Lib.hid (show (m.eraseIdx k).length = q - 1 ∧ 0 < q by rw [← hq]; exact ⟨List.length_eraseIdx_of_lt (by rw [← hk]; exact hne), by omega⟩)
        have HEE := Lib.hid (show m.eraseIdx k = m.take k ++ m.drop J by rw [List.eraseIdx_eq_take_drop_succ, hJ])
        have hs : SrcN wr A1 q c1 m := src_n HO.out hq
        rw [hk, hq] at hne
        rw [hk, hq]
        rw [hq] at hmb hm2
        have HQ := Lib.hid hq
        have i1 : (0 : Int) ≤ (k : Int) := by omega
        have a4 : IntKind.i64.wrap ((k : Int) + 1) = (J : Int) := by rw [IntKind.wrap_i64]; omega
        obtain ⟨B1, d1, hr1, hs1, -⟩ := hs.cuth elemVec Try.underlying27 infoVec k (by omega)
        obtain ⟨B2, d2, hr2, hs2, -⟩ := hs.cutl elemVec Try.underlying27 infoVec J (by omega)
        rw [vtake] at hs1
        rw [vdrop] at hs2
        have HS1 := Lib.hid hs1
        have HS2 := Lib.hid hs2
        have hqj : k + (q - J) = q - 1 := by omega
        have HNE := Lib.hid hne
        clear hs1 hs2 hk hJ hq hs
        go_wp2_with fail
        go_region_law (first
          | (refine step_appG (by rfl) (.tmp 21) (.tmp 24) 27 23 2 16 (.agg #[.int .i64 0, .int .i64 0]) (by rfl) Try.underlying27 infoVec rfl (by omega) wr.heap.size 0 k (.slice (some ⟨wr.heap.size, 0, none⟩) 0 0) (.slice B1 k d1) [] ((m.take k).flatMap vC) (by rfl) (own_lit_at wr wr.heap.size rfl (Nat.le_refl _)) (by rfl) (HS1.out.nw ((nw_alloc wr _).drew)) (flatV_one _) (by omega) (by omega) (by simp) ?_; intro v3 w4 own3 gr3; simp only [Nat.zero_add, List.nil_append] at own3; have hk3 : Nw wr w4 := gr3.nw ((nw_alloc wr _).drew) (by intro kk hkk; simp [Value.ownBlock] at hkk; omega))
          | (refine step_appG (by rfl) (.tmp 25) (.tmp 29) 27 23 2 16 (.agg #[.int .i64 0, .int .i64 0]) (by rfl) Try.underlying27 infoVec rfl (by omega) wr.heap.size k (q - J) v3 (.slice B2 (q - J) d2) ((m.take k).flatMap vC) ((m.drop J).flatMap vC) (by rfl) own3 (by rfl) (HS2.out.nw hk3) (flatV_one _) (by omega) (by omega) hk3.size ?_; intro v4 w5 own4 gr4; have hk4 : Nw wr w5 := gr4.nw hk3 (own_from own3)))
        all_goals (
          have HO4 := Lib.hid (show SrcV w5 v4 (m.eraseIdx k) by
            have h := own_src own4
            rw [← List.flatMap_append, ← HEE.out, hqj] at h
            show Src _ 2 _ (m.eraseIdx k).length _
            rw [HE.out.1]
            exact h)
          have HK4 := Lib.hid (HK.out.tr hk4)
          clear own3 own4 gr3 gr4 hk3 hk4
          go_wp2_with fail
          with_reducible refine (extra_any (m.eraseIdx k) v4 _ HO4.out (by have := HE.out.1; omega)).mono ?_
          rintro e w6 ⟨rfl, k6⟩
          obtain ⟨A5, c5, rfl⟩ := HO4.out.shape
          go_wp2_with fail
          go_roundw
          case rel => exact ⟨_, _, rfl, rfl, HO4.out.nw k6, HC2.out, by have := HE.out.1; have := HMN.out; have := HQ.out; omega, HK4.out.tr k6⟩
          case measure => (have := HE.out; simp [lenV]; omega))
      · rw [if_neg hne] at hx
        have i1 : ¬ (0 ≤ x) := by omega
        have i2 : decide (0 ≤ x) = false := decide_eq_false i1
        obtain ⟨C, hC⟩ : ∃ C, cleanL l = C := ⟨_, rfl⟩
        have hmC : m = C := by rw [← hC, ← HCL.out, clean_end hne]
        subst hmC
        have HR2 := Lib.hid (show cleanR l = if !validR (turnedL m) then ([], 11) else (beginL (turnedL m), 0) by rw [HR.out, hC])
        clear hC hx
        go_wp2_with fail
        with_reducible refine (rsigned_any m _ _ HO.out hmb).mono ?_
        rintro e w4 ⟨rfl, k4⟩
        have HK4 := Lib.hid (HK.out.tr k4)
        have HO4 := Lib.hid (HO.out.nw k4)
        clear k4
        obtain ⟨a, ha⟩ : ∃ a, areaP m = a := ⟨_, rfl⟩
        rw [ha]
        obtain ⟨T, hT⟩ : ∃ T, turnedL m = T := ⟨_, rfl⟩
        have HTL := Lib.hid (show T.length ≤ 1048576 by
          rw [← hT]; unfold turnedL; split
          · rw [List.length_reverse]; omega
          · omega)
        have HR3 := Lib.hid (show cleanR l = if !validR T then ([], 11) else (beginL T, 0) by rw [HR2.out, hT])
        have HTT := Lib.hid (show T = if a < 0 then m.reverse else m by rw [← hT, ← ha]; rfl)
        clear ha hT HR2 i1 i2 hne HR
        by_cases h0 : a < 0
        · go_wp2_with fail
          with_reducible refine (rreverse_any m _ w4 HO4.out hmb).mono ?_
          rintro e w5 ⟨v5, rfl, o5, k5⟩
          rw [show m.reverse = T by rw [HTT.out, if_pos h0]] at o5
          have HO5 := Lib.hid o5
          have HK5 := Lib.hid (HK4.out.tr k5)
          clear o5 k5
          go_wp2_with fail
          with_reducible refine (rvalid8_any T _ _ HO5.out (by have := HTL.out; omega)).mono ?_
          rintro e w6 ⟨rfl, k6⟩
          have HO6 := Lib.hid (HO5.out.nw k6)
          have HK6 := Lib.hid (HK5.out.tr k6)
          clear k6
          obtain ⟨b, hb⟩ : ∃ b, validR T = b := ⟨_, rfl⟩
          rw [hb]
          have HB := Lib.hid hb
          clear hb
          cases b
          · go_wp2_with fail
            go_ret2
            rw [HR3.out, HB.out]
            exact ⟨_, rfl, src_none _ _ _ (Nat.zero_le _), HK6.out⟩
          · go_wp2_with fail
            with_reducible refine (rbegin_any T _ _ HO6.out HTL.out).mono ?_
            rintro e w7 ⟨v7, rfl, o7, k7⟩
            go_wp2_with fail
            go_ret2
            rw [HR3.out, HB.out]
            exact ⟨_, rfl, o7, HK6.out.tr k7⟩
        · have hmT := Lib.hid (show m = T by rw [HTT.out, if_neg h0])
          have HO5 := Lib.hid (show SrcV w4 (.slice A1 m.length c1) T by rw [← hmT.out]; exact HO4.out)
          have HK5 := Lib.hid HK4.out
          go_wp2_with fail
          with_reducible refine (rvalid8_any T _ _ HO5.out (by have := HTL.out; omega)).mono ?_
          rintro e w6 ⟨rfl, k6⟩
          have HO6 := Lib.hid (HO5.out.nw k6)
          have HK6 := Lib.hid (HK5.out.tr k6)
          clear k6
          obtain ⟨b, hb⟩ : ∃ b, validR T = b := ⟨_, rfl⟩
          rw [hb]
          have HB := Lib.hid hb
          clear hb
          cases b
          · go_wp2_with fail
            go_ret2
            rw [HR3.out, HB.out]
            exact ⟨_, rfl, src_none _ _ _ (Nat.zero_le _), HK6.out⟩
          · go_wp2_with fail
            with_reducible refine (rbegin_any T _ _ HO6.out HTL.out).mono ?_
            rintro e w7 ⟨v7, rfl, o7, k7⟩
            go_wp2_with fail
            go_ret2
            rw [HR3.out, HB.out]
            exact ⟨_, rfl, o7, HK6.out.tr k7⟩

end Go.Proofs.Ytlogihcmmoldkaa.W
