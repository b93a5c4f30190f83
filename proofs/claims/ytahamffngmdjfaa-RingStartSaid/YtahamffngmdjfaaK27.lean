/-
  ring: Clean: what it returns. Condition: the list is not longer than 2^40.
  ring: the document's example holds: awake returns true. No condition.
  ring: the reference's Where and Few; the law RingWhere: it returns true. No condition but that the list is not longer than 2^40.
  append of a slice of one type to a slice of another with the same elements. No condition.
  RingStart: the law returns true, whatever its arguments. Condition: the number is a byte.
  The last step of each statement: where the call returns true and writes nothing that was there, the row's own post holds. Condition: the arguments' types are readable.
  The arguments of a statement: a slice whose elements are read reads as a list. No condition.
  The arguments of the statements on vectors: a vector, a box, an array of vectors by value, a list of vectors, an int. No condition.
-/
import Derived.Test.YtahamffngmdjfaaK25
import Derived.Test.YtahamffngmdjfaaK16
import Derived.Test.YtahamffngmdjfaaK26
import Derived.Test.YtahamffngmdjfaaK17
import Derived.Test.YtahamffngmdjfaaK13
import Derived.Deep.RegionHeld3
import Derived.Deep.CutRange
import Derived.Test.YtahamffngmdjfaaRows
import Derived.WalkKit
import Derived.ProofKit
import Derived.SizedLaws
import Derived.OpenShut
import Derived.Lib.SmallJoins
import Derived.Test.YtahamffngmdjfaaK01
import Derived.Deep.Slices
import Derived.ChangeMaps5
namespace Go.Proofs.Ytahamffngmdjfaa.W
open Go.RowKit Go.Proofs.Ytahamffngmdjfaa.V Go.Proofs.Ytahamffngmdjfaa.G


def lenV : Value → Nat
  | .slice _ n _ => n
  | _ => 0
theorem clean_len : ∀ (f : Nat) (l : List Pt), (cleanTo f l).length ≤ l.length
  | 0, l => Nat.le_refl _
  | f + 1, l => by
    unfold cleanTo
    split
    · rename_i h
      have := clean_len f (l.eraseIdx (need l))
      rw [List.length_eraseIdx_of_lt h] at this
      omega
    · exact Nat.le_refl _
theorem own_shape {w0 w : World} {v : Value} {l : List (Int × Int)} (h : OwnL w0 w v l) : ∃ A c, v = .slice A l.length c := h.src.shape
theorem own_back {w0 w1 w2 : World} {v : Value} {l : List (Int × Int)} (h : OwnL w1 w2 v l) (k : Nw w0 w1) : OwnL w0 w2 v l := by
  rcases h with ⟨kk, cap, h1, h2, h3⟩ | h
  · exact .inl ⟨kk, cap, h1, Nat.le_trans k.size h2, h3⟩
  · exact .inr h

set_option maxRecDepth 100000 in
set_option maxHeartbeats 6400000 in
theorem clean_any (l : List (Int × Int)) (v : Value) (w : World) (hv : SrcV w v l) (hl : l.length ≤ 1099511627776) : Calls Try.prog 87 #[v] w fun e w' => ∃ v', e = .returned (.tuple #[v', .int .i64 (cleanR l).2]) ∧ OwnL w w' v' (cleanR l).1 ∧ Nw w w' := by
  have hmix := mixed7
  have cw := isWithinL_any l v w hv
  have cc := fun w1 (h : Nw w w1) => vclone_any l v w1 (hv.nw h) hl
  obtain ⟨A, c, rfl⟩ := hv.shape
  obtain ⟨n, hn⟩ : ∃ n, l.length = n := ⟨_, rfl⟩
  rw [hn] at cw cc hl ⊢
  by_cases h200 : 200 < n
  · have hi : (200 : Int) < (n : Int) := by omega
    rw [show cleanR l = ([], 9) by unfold cleanR; rw [hn, if_pos h200]]
    clear hv cc cw
    go_enter Try.func87, Try.ntmps87
    go_wp2_with fail
    go_ret2
    exact ⟨_, rfl, .inr ⟨rfl, none, 0, rfl, Nat.zero_le _⟩, Kp.refl _ _⟩
  have hi : ¬ ((200 : Int) < (n : Int)) := by omega
  obtain ⟨b, hb⟩ : ∃ b, allW l = b := ⟨_, rfl⟩
  rw [hb] at cw
  cases b with
  | false =>
    rw [show cleanR l = ([], 2) by unfold cleanR; rw [hn, if_neg h200, hb]; rfl]
    clear hv cc hb h200
    go_enter Try.func87, Try.ntmps87
    go_wp2_with fail
    with_reducible refine cw.mono ?_
    rintro e w1 ⟨rfl, k1⟩
    go_wp2_with fail
    go_ret2
    exact ⟨_, rfl, .inr ⟨rfl, none, 0, rfl, Nat.zero_le _⟩, k1⟩
  | true =>
    have hR : cleanR l = if !validR (turnedL (cleanL l)) then ([], 11) else (beginL (turnedL (cleanL l)), 0) := by unfold cleanR; rw [hn, if_neg h200, hb]; rfl
    have HR := Lib.hid hR
    have HN := Lib.hid hn
    have H200 := Lib.hid h200
    clear hv hb hR hn h200 hl
    go_enter Try.func87, Try.ntmps87
    go_wp2_with fail
    with_reducible refine cw.mono ?_
    rintro e w1 ⟨rfl, k1⟩
    go_wp2_with fail
    with_reducible refine (cc _ k1).mono ?_
    rintro e w2 ⟨v2, rfl, o2, k2⟩
    have o2' := own_back o2 k1
    have HK2 := Lib.hid (k1.tr k2)
    have HO2 := Lib.hid o2'
    clear o2 k1 k2 cc cw o2'
    go_wp2_with fail
    with_reducible refine (needless_any l v2 _ HO2.out.src (by have := HN.out; have := H200.out; omega)).mono ?_
    rintro e w3 ⟨rfl, k3⟩
    have HK3 := Lib.hid (HK2.out.tr k3)
    have HO3 := Lib.hid (HO2.out.nw k3)
    clear k3
    go_wp2_with fail
    go_loopw [4, 5] (fun r i wr => ∃ m : List (Int × Int), i = .int .i64 (need m) ∧ OwnL w wr r m ∧ cleanL m = cleanL l ∧ m.length ≤ n ∧ Nw w wr) (fun r i _ => lenV r)
    case atStart => exact ⟨l, rfl, HO3.out, rfl, by rw [HN.out]; exact Nat.le_refl _, HK3.out⟩
    case round =>
      obtain ⟨m, rfl, ho, hcl, hmn, hnw⟩ := hrel
      obtain ⟨A1, c1, rfl⟩ := own_shape ho
      have HO := Lib.hid ho
      have HK := Lib.hid hnw
      have HCL := Lib.hid hcl
      have HMN := Lib.hid hmn
      have hmb : m.length ≤ 1099511627776 := by have := H200.out; omega
      clear ho hnw hcl hmn
      by_cases hne : need m < m.length
      · have i1 : ((need m : Nat) : Int) < ((m.length : Nat) : Int) := by omega
        obtain ⟨k, hk⟩ : ∃ k, need m = k := ⟨_, rfl⟩
        obtain ⟨J, hJ⟩ : ∃ J, k + 1 = J := ⟨_, rfl⟩
        have a4 : IntKind.i64.wrap ((k : Int) + 1) = (J : Int) := by rw [IntKind.wrap_i64]; omega
        have cd := sDelete_any m _ w wr HO.out HK.out hmb k J (by rw [← hk]; exact hne) hJ
        have HC2 := Lib.hid (show cleanL (m.eraseIdx k) = cleanL l by rw [← HCL.out, ← hk]; exact clean_step hne)
        have HE := Lib.hid (show (m.eraseIdx k).length = m.length - 1 ∧ 0 < m.length by exact ⟨List.length_eraseIdx_of_lt (by rw [← hk]; exact hne), by omega⟩)
        rw [hk] at i1 ⊢
        clear hk hJ
        go_wp2_with fail
        with_reducible refine cd.mono ?_
        rintro e w4 ⟨v4, rfl, o4, k4⟩
        have HO4 := Lib.hid o4
        have HK4 := Lib.hid k4
        clear o4 k4 cd
        go_wp2_with fail
        with_reducible refine (needless_any (m.eraseIdx k) v4 _ HO4.out.src (by have := HE.out.1; omega)).mono ?_
        rintro e w5 ⟨rfl, k5⟩
        obtain ⟨A5, c5, rfl⟩ := own_shape HO4.out
        go_wp2_with fail
        go_roundw
        case rel => exact ⟨_, rfl, HO4.out.nw k5, HC2.out, by have := HE.out.1; have := HMN.out; omega, HK4.out.tr k5⟩
        case measure => (have := HE.out; simp [lenV]; omega)
      · have i1 : ¬ (((need m : Nat) : Int) < ((m.length : Nat) : Int)) := by omega
        obtain ⟨C, hC⟩ : ∃ C, cleanL l = C := ⟨_, rfl⟩
        have hmC : m = C := by rw [← hC, ← HCL.out, clean_end hne]
        subst hmC
        have HR2 := Lib.hid (show cleanR l = if !validR (turnedL m) then ([], 11) else (beginL (turnedL m), 0) by rw [HR.out, hC])
        clear hC
        go_wp2_with fail
        with_reducible refine (dArea_any m _ _ HO.out.src hmb).mono ?_
        rintro e w4 ⟨rfl, k4⟩
        have HK4 := Lib.hid (HK.out.tr k4)
        have HO4 := Lib.hid (HO.out.nw k4)
        clear k4
        obtain ⟨a, ha⟩ : ∃ a, areaP m = a := ⟨_, rfl⟩
        rw [ha]
        obtain ⟨T, hT⟩ : ∃ T, turnedL m = T := ⟨_, rfl⟩
        have HTL := Lib.hid (show T.length ≤ 1099511627776 by
          rw [← hT]; unfold turnedL; split
          · rw [List.length_reverse]; exact hmb
          · exact hmb)
        have HR3 := Lib.hid (show cleanR l = if !validR T then ([], 11) else (beginL T, 0) by rw [HR2.out, hT])
        have hT2 : T = if a < 0 then m.reverse else m := by rw [← hT, ← ha]; rfl
        have HTT := Lib.hid hT2
        clear ha hT hT2 HR2 i1 hne HR
        by_cases h0 : a < 0
        · go_wp2_with fail
          with_reducible refine (sReverse_any m _ w w4 HO4.out HK4.out hmb).mono ?_
          rintro e w5 ⟨rfl, o5, k5⟩
          rw [show m.reverse = T by rw [HTT.out, if_pos h0]] at o5
          have HO5 := Lib.hid o5
          have HK5 := Lib.hid k5
          clear o5 k5
          go_wp2_with fail
          with_reducible refine (ringValid_any T _ _ HO5.out.src HTL.out).mono ?_
          rintro e w6 ⟨rfl, k6⟩
          have HO6 := Lib.hid (HO5.out.nw k6)
          have HK6 := Lib.hid (HK5.out.tr k6)
          clear k6
          obtain ⟨b, hb⟩ : ∃ b, validR T = b := ⟨_, rfl⟩
          rw [hb]
          have HB := Lib.hid hb
          clear hb
          cases b
          · go_wp2_with fail
            go_ret2
            rw [HR3.out, HB.out]
            exact ⟨_, rfl, .inr ⟨rfl, none, 0, rfl, Nat.zero_le _⟩, HK6.out⟩
          · go_wp2_with fail
            with_reducible refine (canon_any T _ _ HO6.out.src HTL.out).mono ?_
            rintro e w7 ⟨v7, rfl, o7, k7⟩
            go_wp2_with fail
            go_ret2
            rw [HR3.out, HB.out]
            rw [show canonR T = beginL T by unfold canonR; rw [HB.out]; rfl] at o7
            exact ⟨_, rfl, own_back o7 HK6.out, HK6.out.tr k7⟩
        · have hmT := Lib.hid (show m = T by rw [HTT.out, if_neg h0])
          have HO5 := Lib.hid (show OwnL w w4 (.slice A1 m.length c1) T by rw [← hmT.out]; exact HO4.out)
          have HK5 := Lib.hid HK4.out
          go_wp2_with fail
          with_reducible refine (ringValid_any T _ _ HO5.out.src HTL.out).mono ?_
          rintro e w6 ⟨rfl, k6⟩
          have HO6 := Lib.hid (HO5.out.nw k6)
          have HK6 := Lib.hid (HK5.out.tr k6)
          clear k6
          obtain ⟨b, hb⟩ : ∃ b, validR T = b := ⟨_, rfl⟩
          rw [hb]
          have HB := Lib.hid hb
          clear hb
          cases b
          · go_wp2_with fail
            go_ret2
            rw [HR3.out, HB.out]
            exact ⟨_, rfl, .inr ⟨rfl, none, 0, rfl, Nat.zero_le _⟩, HK6.out⟩
          · go_wp2_with fail
            with_reducible refine (canon_any T _ _ HO6.out.src HTL.out).mono ?_
            rintro e w7 ⟨v7, rfl, o7, k7⟩
            go_wp2_with fail
            go_ret2
            rw [HR3.out, HB.out]
            rw [show canonR T = beginL T by unfold canonR; rw [HB.out]; rfl] at o7
            exact ⟨_, rfl, own_back o7 HK6.out, HK6.out.tr k7⟩

end Go.Proofs.Ytahamffngmdjfaa.W

namespace Go.Proofs.Ytahamffngmdjfaa.W
open Go.RowKit Go.Proofs.Ytahamffngmdjfaa.V Go.Proofs.Ytahamffngmdjfaa.G


def sqL (n : Int) : List Pt := [(0, 0), (n, 0), (n, n), (0, n)]
def awL : List Pt := [(4, 4), (4, 0), (2, 0), (0, 0), (0, 4)]
theorem aw8_clean : cleanR awL = (sqL 4, 0) := by decide +kernel
theorem aw8_area : area2R (sqL 4) = 32 := by decide +kernel
theorem aw8_in : whereR (sqL 4) 2 2 1 = 2 := by decide +kernel
theorem aw8_on : whereR (sqL 4) 4 1 1 = 1 := by decide +kernel
theorem aw8_out : whereR (sqL 4) 5 5 1 = 0 := by decide +kernel
theorem aw8_valid : validR (sqL 4) = true := by decide +kernel
theorem aw8_convex : convexR (sqL 4) = true := by decide +kernel

set_option maxRecDepth 100000 in
set_option maxHeartbeats 3200000 in
theorem square_any (n : Int) (w : World) : Calls Try.prog 113 #[.int .i64 n] w fun e w' => ∃ v', e = .returned v' ∧ SrcV w' v' (sqL n) ∧ Nw w w' := by
  have hb := Blk.new w 23 #[.int .i64 0, .int .i64 0, .int .i64 n, .int .i64 0, .int .i64 n, .int .i64 n, .int .i64 0, .int .i64 n]
  have hs := src_blk (l := sqL n) hb (by simp [sqL])
  go_enter Try.func113, Try.ntmps113
  go_wp2_with fail
  go_ret
  exact ⟨_, rfl, hs, nw_alloc _ _⟩

set_option maxRecDepth 100000 in
set_option maxHeartbeats 6400000 in
theorem awake8_any (w : World) : Calls Try.prog 74 #[] w fun e w' => e = .returned (.bool true) ∧ Nw w w' := by
  have hmix := mixed7
  have c0 := fun w1 => square_any 4 w1
  go_enter Try.func74, Try.ntmps74
  go_wp2_with fail
  with_reducible refine (c0 _).mono ?_
  rintro e w1 ⟨v1, rfl, s1, k1⟩
  have hb := Blk.new w1 23 #[.int .i64 4, .int .i64 4, .int .i64 4, .int .i64 0, .int .i64 2, .int .i64 0, .int .i64 0, .int .i64 0, .int .i64 0, .int .i64 4]
  have hs : SrcV _ (.slice (some ⟨w1.heap.size, 0, none⟩) 5 5) awL := src_blk (l := awL) hb (by simp [awL])
  have cc := clean_any awL _ _ hs (by simp [awL])
  rw [aw8_clean] at cc
  have hN1 := k1.alloc (.cells #[.int .i64 4, .int .i64 4, .int .i64 4, .int .i64 0, .int .i64 2, .int .i64 0, .int .i64 0, .int .i64 0, .int .i64 0, .int .i64 4] 23)
  have s1a := s1.nw (nw_alloc w1 (.cells #[.int .i64 4, .int .i64 4, .int .i64 4, .int .i64 0, .int .i64 2, .int .i64 0, .int .i64 0, .int .i64 0, .int .i64 0, .int .i64 4] 23))
  clear hs hb s1 k1 c0
  go_wp2_with fail
  with_reducible refine cc.mono ?_
  rintro e w2 ⟨v2, rfl, o2, k2⟩
  have s2 := o2.src
  have s1b := s1a.nw k2
  have h2 := hN1.tr k2
  clear cc o2 k2 s1a hN1
  have hl : (sqL 4).length ≤ 1099511627776 := by simp [sqL]
  have ca := fun w3 (h : Nw w2 w3) => area2_any (sqL 4) v1 w3 (s1b.nw h) hl
  have cx := fun w3 (h : Nw w2 w3) => where_any (sqL 4) v1 2 2 w3 (s1b.nw h) hl
  have cy := fun w3 (h : Nw w2 w3) => where_any (sqL 4) v1 4 1 w3 (s1b.nw h) hl
  have cz := fun w3 (h : Nw w2 w3) => where_any (sqL 4) v1 5 5 w3 (s1b.nw h) hl
  have cv := fun w3 (h : Nw w2 w3) => ringValid_any (sqL 4) v1 w3 (s1b.nw h) hl
  have cx2 := fun w3 (h : Nw w2 w3) => convex_any (sqL 4) v1 w3 (s1b.nw h) hl
  have cs := fun w3 (h : Nw w2 w3) => ringSame_any (sqL 4) (sqL 4) v2 v1 w3 (s2.nw h) (s1b.nw h)
  rw [aw8_area] at ca
  rw [aw8_in] at cx
  rw [aw8_on] at cy
  rw [aw8_out] at cz
  rw [aw8_valid] at cv
  rw [aw8_convex] at cx2
  simp only [decide_true] at cs
  have h0 : Nw w2 w2 := Kp.refl _ _
  have H2 := Lib.hid h2
  clear h2 s1b s2 hl
  go_wp2_with fail
  with_reducible refine (ca _ h0).mono ?_
  rintro e w3 ⟨rfl, k3⟩
  have h3 := (h0).tr k3
  go_wp2_with fail
  with_reducible refine (cx _ h3).mono ?_
  rintro e w4 ⟨rfl, k4⟩
  have h4 := (h3).tr k4
  go_wp2_with fail
  with_reducible refine (cy _ h4).mono ?_
  rintro e w5 ⟨rfl, k5⟩
  have h5 := (h4).tr k5
  go_wp2_with fail
  with_reducible refine (cz _ h5).mono ?_
  rintro e w6 ⟨rfl, k6⟩
  have h6 := (h5).tr k6
  go_wp2_with fail
  with_reducible refine (cv _ h6).mono ?_
  rintro e w7 ⟨rfl, k7⟩
  have h7 := (h6).tr k7
  go_wp2_with fail
  with_reducible refine (cx2 _ h7).mono ?_
  rintro e w8 ⟨rfl, k8⟩
  have h8 := (h7).tr k8
  go_wp2_with fail
  with_reducible refine (cs _ h8).mono ?_
  rintro e w9 ⟨rfl, k9⟩
  have h9 := (h8).tr k9
  go_wp2_with fail
  go_ret
  exact ⟨rfl, H2.out.tr h9⟩

end Go.Proofs.Ytahamffngmdjfaa.W

namespace Go.Proofs.Ytahamffngmdjfaa.W
open Go.RowKit Go.Proofs.Ytahamffngmdjfaa.V Go.Proofs.Ytahamffngmdjfaa.G


set_option maxRecDepth 100000 in
set_option maxHeartbeats 3200000 in
theorem few_any (l : List (Int × Int)) (v : Value) (w : World) (hv : SrcV w v l) : Calls Try.prog 75 #[v] w fun e w' => e = .returned (.bool (decide (l.length ≤ 60))) ∧ Nw w w' := by
  obtain ⟨A, c, rfl⟩ := hv.shape
  obtain ⟨n, hn⟩ : ∃ n, l.length = n := ⟨_, rfl⟩
  rw [hn]
  clear hv hn
  by_cases h : n ≤ 60
  · have h1 : ((n : Int) ≤ 60) := by omega
    rw [decide_eq_true h]
    go_enter Try.func75, Try.ntmps75
    go_wp2_with fail
    go_ret
    exact ⟨by simp, Kp.refl _ _⟩
  · have h1 : ¬ ((n : Int) ≤ 60) := by omega
    rw [decide_eq_false h]
    go_enter Try.func75, Try.ntmps75
    go_wp2_with fail
    go_ret
    exact ⟨by simp, Kp.refl _ _⟩
theorem within_8 {x y : Int} (h : withinV x y 8000 = false) : validP x y 1 = false := by
  rw [← Bool.not_eq_true] at h ⊢
  intro hc
  apply h
  unfold validP at hc
  rw [Bool.and_eq_true] at hc
  obtain ⟨-, ⟨h3, h4, h5, h6⟩, -⟩ := in_mid (m := 4000) (by omega) hc.1
  unfold withinV
  rw [show w64 (-8000) = -8000 from w64_id ⟨by omega, by omega⟩]
  simp
  omega

set_option maxRecDepth 100000 in
set_option maxHeartbeats 3200000 in
theorem rwhere8_any (l : List (Int × Int)) (v : Value) (x y : Int) (w : World) (hv : SrcV w v l) (hl : l.length ≤ 1099511627776) : Calls Try.prog 77 #[v, vV x y] w fun e w' => e = .returned (.int .i64 (whereR l x y 1)) ∧ Nw w w' := by
  have c0 := fun w1 => rwithin_any x y 8000 w1
  have c1 := fun w1 => rpointOf_any x y w1
  have c2 := fun w1 (h : Nw w w1) => rwherePoint_any l v x y 1 w1 (hv.nw h) hl
  have hb := Blk.new w 23 #[.int .i64 x, .int .i64 y]
  have h0 := nw_alloc w (.cells #[.int .i64 x, .int .i64 y] 23)
  clear hv
  obtain ⟨b, hbb⟩ : ∃ b, withinV x y 8000 = b := ⟨_, rfl⟩
  rw [hbb] at c0
  cases b
  · rw [show whereR l x y 1 = 0 by unfold whereR; rw [within_8 hbb, Bool.and_false]; rfl]
    clear hbb
    go_enter Try.func77, Try.ntmps77
    go_wp2_with fail
    with_reducible refine (c0 _).mono ?_
    rintro e w1 ⟨rfl, k1⟩
    go_wp2_with fail
    go_ret
    exact ⟨rfl, h0.tr k1⟩
  · clear hbb
    go_enter Try.func77, Try.ntmps77
    go_wp2_with fail
    with_reducible refine (c0 _).mono ?_
    rintro e w1 ⟨rfl, k1⟩
    obtain ⟨y0, y1, -, -⟩ := (hb.kp k1 id).two
    have h1 := h0.tr k1
    clear hb h0 k1 c0
    go_wp2_with fail
    with_reducible refine (c1 _).mono ?_
    rintro e w2 ⟨rfl, k2⟩
    go_wp2_with fail
    with_reducible refine (c2 _ (h1.tr k2)).mono ?_
    rintro e w3 ⟨rfl, k3⟩
    go_wp2_with fail
    go_ret
    exact ⟨rfl, (h1.tr k2).tr k3⟩

theorem onS_onP {a b : Pt} (ha : Lm a.1 a.2) (hb : Lm b.1 b.2) {x y : Int} (hp : Lm x y) : onS a.1 a.2 b.1 b.2 x y = onP (a, b) x y 1 := by
  have hv : validS a.1 a.2 b.1 b.2 = true := by unfold validS; rw [Bool.and_eq_true, within_lm, within_lm]; exact ⟨ha, hb⟩
  rw [on_boxS hv]
  unfold onP
  rw [Int.mul_one, Int.mul_one, Int.mul_one, Int.mul_one]
  congr 1
  rw [turn_lm ha hb hp]
  apply Bool.eq_iff_iff.2
  rw [beq_iff_eq, beq_iff_eq, sgn_zero_iff]
  show (b.1 - a.1) * (y - a.2) - (b.2 - a.2) * (x - a.1) = 0 ↔ (b.1 - a.1) * (y - a.2 * 1) - (b.2 - a.2) * (x - a.1 * 1) = 0
  rw [Int.mul_one, Int.mul_one]
theorem where_one {l : List Pt} {x y : Int} (hv : validR l = true) (hp : Lm x y) : (whereR l x y 1 == 1) = anyOn (edgesP l) x y 1 := by
  unfold whereR
  rw [hv, valid_int hp, Bool.and_self, if_pos rfl]
  cases anyOn (edgesP l) x y 1
  · rw [if_neg (by simp)]
    split <;> rfl
  · rfl

end Go.Proofs.Ytahamffngmdjfaa.W

namespace Go.Proofs.Ytahamffngmdjfaa.W
open Go.RowKit Go.Proofs.Ytahamffngmdjfaa.V

theorem app_types {w : World} (ty t tx e : TypeId) (b : Option Addr) (n c : Nat) (u : Value) (hu : Try.prog.underlying t = some (.slice e)) (hx : Try.prog.underlying tx = some (.slice e)) :
    (Builtin.append_ #[t, tx] ty #[.slice b n c, u]).run Try.prog w = (Builtin.append_ #[t, t] ty #[.slice b n c, u]).run Try.prog w := by
  simp [Builtin.append_, run_underlying hu, run_underlying hx]
section
variable {w : World} {ops : Array Oper} {o : Oper} {a : Act} {K : Act → World → Prop} {Q : Exit → Act → World → Prop} {E : Prop}
theorem step_appG2 (hgd : o.guard = none) (s x : Operand) (t tx e : TypeId) (size bts : Nat) (z : Value)
    (ho : o.op = .call { callee := .builtin .append, args := #[s, x], argTypes := #[t, tx] })
    (hu : Try.prog.underlying t = some (.slice e)) (hux : Try.prog.underlying tx = some (.slice e)) (hinfo : (Try.prog.info? e).map (fun i => (i.zero, i.size, i.bytes)) = some (some z, size, bts)) (hz : z.cells.size = size) (hsz : 0 < size)
    (B n m : Nat) (v u : Value) (vs us : List Value) (hs : a.eval s = v) (hown : w.ownsRow B e size v n vs) (hx : a.eval x = u) (hsrc : Src w size u m us) (hone : ∀ u ∈ us, u.oneCell' = true)
    (hlen : (n + m) * bts ≤ 140737488355328) (hn : n + m ≤ 9223372036854775807) (hB : B ≤ w.heap.size)
    (h : ∀ v' w', w'.ownsRow B e size v' (n + m) (vs ++ us) → Grew w w' v v' → K (a.put o.dst v') w') :
    if Region.wanted o (yielded ops a.tmps) = true then Oper.wp Try.prog o a w K Q else E := by
  have hw : Region.wanted o (yielded ops a.tmps) = true := by simp [Region.wanted, hgd]
  rw [if_pos hw]
  obtain ⟨v', w', hr, h1, h2⟩ := run_appG o.type t e size bts z hu hinfo hz hsz B n m v u vs us hown hsrc hone hlen hn hB
  obtain ⟨b0, n0, c0, rfl⟩ : ∃ b0 n0 c0, v = .slice b0 n0 c0 := by
    rcases hown.2 with ⟨rfl, _⟩ | ⟨g, cap, cur, rfl, _⟩
    · exact ⟨_, _, _, rfl⟩
    · exact ⟨_, _, _, rfl⟩
  have hr2 := (app_types o.type t tx e b0 n0 c0 u hu hux).trans hr
  unfold Oper.wp execOp
  simp only [ho, resolve, invoke, builtin, Sem.run_bind, Sem.run_pure, Result.andThen_ok, List.map_toArray, List.map_cons, List.map_nil, hs, hx, hr2]
  exact h v' w' h1 h2
end
end Go.Proofs.Ytahamffngmdjfaa.W

namespace Go.Proofs.Ytahamffngmdjfaa.W
open Go.RowKit Go.Proofs.Ytahamffngmdjfaa.V Go.Proofs.Ytahamffngmdjfaa.G


set_option maxRecDepth 100000 in
set_option maxHeartbeats 12800000 in
theorem ringStart_walk (l : List (Int × Int)) (v : Value) (a : Nat) (ha : a < 256) (px py : Int) (w : World) (hv : SrcV w v l) (h60 : l.length ≤ 60) (hvd : validR l = true) : Calls Try.prog 18 #[v, .int .u8 a, vV px py] w fun e w' => e = .returned (.bool true) ∧ Nw w w' := by
  have hmix := mixed7
  have hl : l.length ≤ 1099511627776 := by omega
  obtain ⟨w0, hw0⟩ : ∃ w0, (w.alloc (.cells #[.int .i64 px, .int .i64 py] 23)) = w0 := ⟨_, rfl⟩
  have HW0 := Lib.hid (show Nw w w0 by rw [← hw0]; exact nw_alloc _ _)
  have HB := Lib.hid (show ∀ w', Nw w0 w' → Blk w' w.heap.size 23 #[.int .i64 px, .int .i64 py] from fun w' h => by
    rw [← hw0] at h
    exact (Blk.new _ _ _).kp h id)
  have cf := fun w1 (h : Nw w w1) => few_any l v w1 (hv.nw h)
  have cv := fun w1 (h : Nw w w1) => ringValid_any l v w1 (hv.nw h) hl
  have cc := fun w1 (h : Nw w w1) => canon_any l v w1 (hv.nw h) hl
  rw [decide_eq_true h60] at cf
  rw [hvd] at cv
  obtain ⟨PV, hPV⟩ : ∃ s, w.heap.size = s := ⟨_, rfl⟩
  rw [hPV] at HB
  obtain ⟨g3, g40, -, -, -⟩ := valid_parts hvd
  obtain ⟨A, c, rfl⟩ := hv.shape
  obtain ⟨n, hn⟩ : ∃ n, l.length = n := ⟨_, rfl⟩
  replace hv := src_n hv hn
  rw [hn] at cf cv cc g3 g40 ⊢
  have HV := Lib.hid hv
  have HN := Lib.hid hn
  have HVD := Lib.hid hvd
  obtain ⟨k, hk⟩ : ∃ k, a % n = k := ⟨_, rfl⟩
  have hkn : k < n := by rw [← hk]; exact Nat.mod_lt _ (by omega)
  have z0 : ¬ (n = 0) := by omega
  have a1 : (a : Int).tmod (n : Int) = (k : Int) := by rw [tmod_nat, hk]
  have a2 : IntKind.i64.wrap ((a : Int).tmod (n : Int)) = (k : Int) := by rw [a1, IntKind.wrap_i64]; omega
  have a3 : IntKind.i64.wrap (a : Int) = (a : Int) := by rw [IntKind.wrap_i64]; omega
  clear hv hn hvd hk h60 hl
  go_enter Try.func18, Try.ntmps18
  go_wp2_with fail
  with_reducible refine (awake8_any _).mono ?_
  rintro e w1 ⟨rfl, k1⟩
  have n1 := HW0.out.tr k1
  clear hw0 hPV
  go_wp2_with fail
  with_reducible refine (cf _ n1).mono ?_
  rintro e w2 ⟨rfl, k2⟩
  go_wp2_with fail
  with_reducible refine (cv _ (n1.tr k2)).mono ?_
  rintro e w3 ⟨rfl, k3⟩
  have N3 := Lib.hid ((k1.tr k2).tr k3)
  clear k1 k2 k3 n1 cf cv
  go_upto_region 6 with fail
  have hv3 : SrcN w3 A n c l := HV.out.nw (HW0.out.tr N3.out)
  obtain ⟨B1, d1, hr1, hs1, -⟩ := hv3.cutl elemRing Try.underlying74 infoVec k (Nat.le_of_lt hkn)
  obtain ⟨B2, d2, hr2, hs2, -⟩ := hv3.cuth elemRing Try.underlying74 infoVec k (Nat.le_of_lt hkn)
  rw [vdrop] at hs1
  rw [vtake] at hs2
  have HS1 := Lib.hid hs1
  have HS2 := Lib.hid hs2
  have hq1 : n - k + k = n := by omega
  clear hs1 hs2 hv3
  go_region_law (first
    | (refine step_appG (by rfl) (.tmp 30) (.tmp 33) 74 23 2 16 (.agg #[.int .i64 0, .int .i64 0]) (by rfl) Try.underlying74 infoVec rfl (by omega) w3.heap.size 0 (n - k) (.slice (some ⟨w3.heap.size, 0, none⟩) 0 0) (.slice B1 (n - k) d1) [] ((l.drop k).flatMap vC) (by rfl) (own_lit_at w3 w3.heap.size rfl (Nat.le_refl _)) (by rfl) (HS1.out.nw ((nw_alloc w3 _).drew)) (flatV_one _) (by omega) (by omega) (by simp) ?_; intro v3 w4 own3 gr3; simp only [Nat.zero_add, List.nil_append] at own3; have hk3 : Nw w3 w4 := gr3.nw ((nw_alloc w3 _).drew) (by intro kk hkk; simp [Value.ownBlock] at hkk; omega))
    | (refine step_appG (by rfl) (.tmp 34) (.tmp 37) 74 23 2 16 (.agg #[.int .i64 0, .int .i64 0]) (by rfl) Try.underlying74 infoVec rfl (by omega) w3.heap.size (n - k) k v3 (.slice B2 k d2) ((l.drop k).flatMap vC) ((l.take k).flatMap vC) (by rfl) own3 (by rfl) (HS2.out.nw hk3) (flatV_one _) (by omega) (by omega) hk3.size ?_; intro v4 w5 own4 gr4; have hk4 : Nw w3 w5 := gr4.nw hk3 (own_from own3)))
  all_goals (
    have HT := Lib.hid (show SrcV w5 v4 (rotL l k) by
      have h := own_src own4
      rw [← List.flatMap_append, hq1] at h
      show Src _ 2 _ (rotL l k).length _
      rw [rot_len (by rw [HN.out]; omega), HN.out]
      exact h)
    have N5 := Lib.hid (N3.out.tr hk4)
    clear own3 own4 gr3 gr4 hk3 hk4
    obtain ⟨T, hT⟩ : ∃ T, rotL l k = T := ⟨_, rfl⟩
    rw [hT] at HT
    have hkl : k ≤ l.length := by rw [HN.out]; omega
    have HF := Lib.hid (show validR T = true ∧ area2R T = area2R l ∧ canonR T = canonR l ∧ whereR T px py 1 = whereR l px py 1 ∧ T.length = n ∧ beginL T = canonR l by
      rw [← hT]
      have hv1 := rot_valid hkl HVD.out
      have hc : canonR l = beginL l := by unfold canonR; rw [HVD.out]; rfl
      refine ⟨hv1, ?_, ?_, rot_where (by rw [HN.out]; exact hkn) HVD.out px py 1, by rw [rot_len hkl, HN.out], ?_⟩
      · unfold area2R; rw [hv1, HVD.out, rot_area hkl]
      · rw [hc]; unfold canonR; rw [hv1]; exact rot_begin (by rw [HN.out]; exact hkn) HVD.out
      · rw [hc]; exact rot_begin (by rw [HN.out]; exact hkn) HVD.out)
    obtain ⟨A5, c5, rfl⟩ := HT.out.shape
    rw [HF.out.2.2.2.2.1]
    go_wp2_with fail
    with_reducible refine (cc _ (HW0.out.tr N5.out)).mono ?_
    rintro e w6 ⟨v6, rfl, o6, k6⟩
    have N6 := Lib.hid (N5.out.tr k6)
    have S6 := Lib.hid o6.src
    have T6 := Lib.hid (show SrcV w6 (.slice A5 n c5) T from by
      have h := HT.out.nw k6
      rw [HF.out.2.2.2.2.1] at h
      exact src_v h HF.out.2.2.2.2.1)
    have HRV := Lib.hid (rev_not HVD.out)
    clear o6 k6 cc
    have hln : l.length ≤ 1099511627776 := by rw [HN.out]; omega
    have hTn : T.length ≤ 1099511627776 := by rw [HF.out.2.2.2.2.1]; omega
    have LV : ∀ w1, Nw w6 w1 → SrcV w1 (.slice A n c) l := fun w1 h => src_v (HV.out.nw (HW0.out.tr (N6.out.tr h))) HN.out
    have d1 := fun w1 (h : Nw w6 w1) => ringValid_any T (.slice A5 n c5) w1 (T6.out.nw h) hTn
    have d2 := fun w1 (h : Nw w6 w1) => area2_any T (.slice A5 n c5) w1 (T6.out.nw h) hTn
    have d3 := fun w1 (h : Nw w6 w1) => area2_any l (.slice A n c) w1 (LV w1 h) hln
    have d4 := fun w1 (h : Nw w6 w1) => canon_any T (.slice A5 n c5) w1 (T6.out.nw h) hTn
    have d6 := fun w1 (h : Nw w6 w1) => where_any T (.slice A5 n c5) px py w1 (T6.out.nw h) hTn
    have d7 := fun w1 (h : Nw w6 w1) => where_any l (.slice A n c) px py w1 (LV w1 h) hln
    have d8 := fun w1 (h : Nw w6 w1) => ringReverse_any l (.slice A n c) w1 (LV w1 h) hln
    have d9 := fun u w1 (s : SrcV w1 u l.reverse) => ringValid_any l.reverse u w1 s (by rw [List.length_reverse]; exact hln)
    rw [HF.out.1] at d1
    rw [HF.out.2.1] at d2
    rw [HF.out.2.2.1] at d4
    rw [HF.out.2.2.2.1] at d6
    rw [HRV.out] at d9
    obtain ⟨cl, hcl⟩ : ∃ z, canonR l = z := ⟨_, rfl⟩
    have HCL := Lib.hid hcl
    rw [hcl] at d4 S6
    have d5 := fun u w1 (h : Nw w6 w1) (s : SrcV w1 u cl) => ringSame_any cl cl u v6 w1 s (S6.out.nw h)
    rw [decide_eq_true rfl] at d5
    obtain ⟨r1, hr1⟩ : ∃ z, area2R l = z := ⟨_, rfl⟩
    obtain ⟨r3, hr3⟩ : ∃ z, whereR l px py 1 = z := ⟨_, rfl⟩
    rw [hr1] at d2 d3
    rw [hr3] at d6 d7
    obtain ⟨rv, hrv⟩ : ∃ z, l.reverse = z := ⟨_, rfl⟩
    rw [hrv] at d8 d9
    have y1 : (r1 != r1) = false := by simp
    have y3 : (r3 != r3) = false := by simp
    have HP := Lib.hid (show ∀ w', Nw w6 w' → (w'.cell? (⟨PV, 0, none⟩ : Addr) = some (.int .i64 px) ∧ w'.cell? (⟨PV, 1, none⟩ : Addr) = some (.int .i64 py)) from fun w' h => by
      have hk := HB.out w' (N6.out.tr h)
      exact ⟨hk.cell 0, hk.cell 1⟩)
    clear hcl hr1 hr3 hrv hln LV hkl
    go_upto_region 8 with fail
    go_cut [71] from 41 to 71 (fun bv wx => bv = .bool false ∧ Nw w6 wx)
    case first =>
      go_wp2_with fail
      go_region_held3 (fun w' : World => (w'.cell? (⟨PV, 0, none⟩ : Addr) = some (.int .i64 px) ∧ w'.cell? (⟨PV, 1, none⟩ : Addr) = some (.int .i64 py)))
        (first | ((refine HP.out _ ?_); (repeat (first | exact hb9 | exact hb8 | exact hb7 | exact hb6 | exact hb5 | exact hb4 | exact hb3 | exact hb2 | exact hb1 | exact Kp.refl _ _ | refine Kp.drew ?_))) | fail)
        (first | (go_at_call 80; ((with_reducible refine (d1 _ ?_).mono ?_); (repeat (first | exact hb9 | exact hb8 | exact hb7 | exact hb6 | exact hb5 | exact hb4 | exact hb3 | exact hb2 | exact hb1 | exact Kp.refl _ _ | refine Kp.drew ?_)); rintro e u1 ⟨rfl, hk1⟩; have hb1 : Nw w6 u1 := Kp.tr (by repeat (first | exact hb9 | exact hb8 | exact hb7 | exact hb6 | exact hb5 | exact hb4 | exact hb3 | exact hb2 | exact hb1 | exact Kp.refl _ _ | refine Kp.drew ?_)) hk1)) | (go_at_call 85; ((with_reducible refine (d2 _ ?_).mono ?_); (repeat (first | exact hb9 | exact hb8 | exact hb7 | exact hb6 | exact hb5 | exact hb4 | exact hb3 | exact hb2 | exact hb1 | exact Kp.refl _ _ | refine Kp.drew ?_)); rintro e u2 ⟨rfl, hk2⟩; have hb2 : Nw w6 u2 := Kp.tr (by repeat (first | exact hb9 | exact hb8 | exact hb7 | exact hb6 | exact hb5 | exact hb4 | exact hb3 | exact hb2 | exact hb1 | exact Kp.refl _ _ | refine Kp.drew ?_)) hk2)) | (go_at_call 85; ((with_reducible refine (d3 _ ?_).mono ?_); (repeat (first | exact hb9 | exact hb8 | exact hb7 | exact hb6 | exact hb5 | exact hb4 | exact hb3 | exact hb2 | exact hb1 | exact Kp.refl _ _ | refine Kp.drew ?_)); rintro e u3 ⟨rfl, hk3⟩; have hb3 : Nw w6 u3 := Kp.tr (by repeat (first | exact hb9 | exact hb8 | exact hb7 | exact hb6 | exact hb5 | exact hb4 | exact hb3 | exact hb2 | exact hb1 | exact Kp.refl _ _ | refine Kp.drew ?_)) hk3)) | (go_at_call 90; ((with_reducible refine (d4 _ ?_).mono ?_); (repeat (first | exact hb9 | exact hb8 | exact hb7 | exact hb6 | exact hb5 | exact hb4 | exact hb3 | exact hb2 | exact hb1 | exact Kp.refl _ _ | refine Kp.drew ?_)); rintro e u4 ⟨v4, rfl, o4, hk4⟩; have hb4 : Nw w6 u4 := Kp.tr (by repeat (first | exact hb9 | exact hb8 | exact hb7 | exact hb6 | exact hb5 | exact hb4 | exact hb3 | exact hb2 | exact hb1 | exact Kp.refl _ _ | refine Kp.drew ?_)) hk4)) | (go_at_call 89; ((with_reducible refine (d5 _ _ ?_ o4.src).mono ?_); (repeat (first | exact hb9 | exact hb8 | exact hb7 | exact hb6 | exact hb5 | exact hb4 | exact hb3 | exact hb2 | exact hb1 | exact Kp.refl _ _ | refine Kp.drew ?_)); rintro e u5 ⟨rfl, hk5⟩; have hb5 : Nw w6 u5 := Kp.tr (by repeat (first | exact hb9 | exact hb8 | exact hb7 | exact hb6 | exact hb5 | exact hb4 | exact hb3 | exact hb2 | exact hb1 | exact Kp.refl _ _ | refine Kp.drew ?_)) hk5)) | (go_at_call 76; ((with_reducible refine (d6 _ ?_).mono ?_); (repeat (first | exact hb9 | exact hb8 | exact hb7 | exact hb6 | exact hb5 | exact hb4 | exact hb3 | exact hb2 | exact hb1 | exact Kp.refl _ _ | refine Kp.drew ?_)); rintro e u6 ⟨rfl, hk6⟩; have hb6 : Nw w6 u6 := Kp.tr (by repeat (first | exact hb9 | exact hb8 | exact hb7 | exact hb6 | exact hb5 | exact hb4 | exact hb3 | exact hb2 | exact hb1 | exact Kp.refl _ _ | refine Kp.drew ?_)) hk6)) | (go_at_call 76; ((with_reducible refine (d7 _ ?_).mono ?_); (repeat (first | exact hb9 | exact hb8 | exact hb7 | exact hb6 | exact hb5 | exact hb4 | exact hb3 | exact hb2 | exact hb1 | exact Kp.refl _ _ | refine Kp.drew ?_)); rintro e u7 ⟨rfl, hk7⟩; have hb7 : Nw w6 u7 := Kp.tr (by repeat (first | exact hb9 | exact hb8 | exact hb7 | exact hb6 | exact hb5 | exact hb4 | exact hb3 | exact hb2 | exact hb1 | exact Kp.refl _ _ | refine Kp.drew ?_)) hk7)) | (go_at_call 91; ((with_reducible refine (d8 _ ?_).mono ?_); (repeat (first | exact hb9 | exact hb8 | exact hb7 | exact hb6 | exact hb5 | exact hb4 | exact hb3 | exact hb2 | exact hb1 | exact Kp.refl _ _ | refine Kp.drew ?_)); rintro e u8 ⟨v8, rfl, o8, hk8⟩; have hb8 : Nw w6 u8 := Kp.tr (by repeat (first | exact hb9 | exact hb8 | exact hb7 | exact hb6 | exact hb5 | exact hb4 | exact hb3 | exact hb2 | exact hb1 | exact Kp.refl _ _ | refine Kp.drew ?_)) hk8)) | (go_at_call 80; ((with_reducible refine (d9 _ _ o8.src).mono ?_); rintro e u9 ⟨rfl, hk9⟩; have hb9 : Nw w6 u9 := Kp.tr (by repeat (first | exact hb9 | exact hb8 | exact hb7 | exact hb6 | exact hb5 | exact hb4 | exact hb3 | exact hb2 | exact hb1 | exact Kp.refl _ _ | refine Kp.drew ?_)) hk9)))
      all_goals (go_wp2_with fail; go_meet; case rel => exact ⟨rfl, hb9⟩)
    case rest =>
      obtain ⟨rfl, kc⟩ := hcut
      have NC := Lib.hid kc
      have TC := Lib.hid (T6.out.nw kc)
      have SC := Lib.hid (S6.out.nw kc)
      clear kc d1 d2 d3 d4 d5 d6 d7 d8 d9 y1 y3
      have hTn2 := HF.out.2.2.2.2.1
      have tsrc : SrcN wc A5 n c5 T := src_n (show SrcV wc (.slice A5 T.length c5) T by rw [hTn2]; exact TC.out) hTn2
      obtain ⟨g, oo, rfl, hg, hc⟩ := src_at tsrc (by omega)
      obtain ⟨s9, hs9⟩ : ∃ s : Nat, n - 1 = s := ⟨_, rfl⟩
      have hs9n : s9 < n := by omega
      have a9 : IntKind.i64.wrap ((n : Int) - 1) = (s9 : Int) := by rw [IntKind.wrap_i64]; omega
      have i9 : (0 : Int) ≤ (s9 : Int) := by omega
      have j9 : (s9 : Int) < (n : Int) := by omega
      obtain ⟨⟨ex, ey⟩, he⟩ : ∃ p, at_ T s9 = p := ⟨_, rfl⟩
      have HPT := Lib.hid (show ∀ w', Nw wc w' → w'.cell? (⟨g, oo + s9 * 2, none⟩ : Addr) = some (.int .i64 ex) ∧ w'.cell? (⟨g, oo + s9 * 2 + 1, none⟩ : Addr) = some (.int .i64 ey) from fun w' h => by
        have hh := hc w' h s9 hs9n
        rw [he] at hh
        exact hh)
      obtain ⟨zz0, zz1⟩ := HPT.out wc (Kp.refl _ _)
      have HTW := Lib.hid (show cleanR (T ++ [(ex, ey)]) = (cl, 0) ∧ cleanR T.reverse = (cl, 0) ∧ (T ++ [(ex, ey)]).length = n + 1 by
        have e9 : at_ T (T.length - 1) = (ex, ey) := by rw [hTn2, hs9]; exact he
        have e1 := clean_twice HF.out.1
        have e2 := clean_rev HF.out.1
        rw [e9] at e1
        rw [HF.out.2.2.2.2.2, HCL.out] at e1 e2
        exact ⟨e1, e2, by rw [List.length_append, hTn2]; rfl⟩)
      have HG := Lib.hid hg
      clear he hs9 hs9n hc tsrc hg
      go_upto_region 10 with fail
      go_cut [10] from 72 to 82 (fun bv wx => SrcV wx bv (T ++ [(ex, ey)]) ∧ Nw wc wx)
      case first =>
        go_wp2_with fail
        go_region_held3 (fun w' : World => w'.cell? (⟨g, oo + s9 * 2, none⟩ : Addr) = some (.int .i64 ex) ∧ w'.cell? (⟨g, oo + s9 * 2 + 1, none⟩ : Addr) = some (.int .i64 ey))
          (first | ((refine HPT.out _ ?_); (repeat (first | exact hk5 | exact hk3 | exact Kp.refl _ _ | refine Kp.alloc ?_ _ | refine Kp.drew ?_))) | fail)
          (first
            | (refine step_appG2 (by rfl) (.tmp 72) (.tmp 73) 36 74 23 2 16 (.agg #[.int .i64 0, .int .i64 0]) (by rfl) Try.underlying36 Try.underlying74 infoVec rfl (by omega) wc.heap.size 0 n (.slice (some ⟨wc.heap.size, 0, none⟩) 0 0) _ [] (T.flatMap vC) (by rfl) (by first | exact own_lit_at wc wc.heap.size rfl (Nat.le_refl _) | exact own_nw (own_lit_at wc wc.heap.size rfl (Nat.le_refl _)) ((nw_alloc _ (.cells #[.int .i64 ex, .int .i64 ey] 23)).drew) | exact own_lit_at (wc.alloc (.cells #[.int .i64 ex, .int .i64 ey] 23)) (wc.heap.size + 1) (by simp) (Nat.le_succ _)) (by rfl) (src_n (show SrcV _ (.slice (some ⟨g, oo, none⟩) T.length c5) T by rw [hTn2]; exact TC.out.nw (by repeat (first | exact hk5 | exact hk3 | exact Kp.refl _ _ | refine Kp.alloc ?_ _ | refine Kp.drew ?_))) hTn2) (flatV_one _) (by omega) (by omega) (by first | (simp; done) | (simp; omega)) ?_; intro v3 w4 own3 gr3; simp only [Nat.zero_add, List.nil_append] at own3; have hk3 : Nw wc w4 := gr3.nw (by repeat (first | exact hk5 | exact hk3 | exact Kp.refl _ _ | refine Kp.alloc ?_ _ | refine Kp.drew ?_)) (by intro kk hkk; simp [Value.ownBlock] at hkk; omega); (first | (have p81 : Blk w4 wc.heap.size 23 #[.int .i64 ex, .int .i64 ey] := Blk.kp (Blk.drew (Blk.alloc (Blk.new_at wc 23 #[.int .i64 ex, .int .i64 ey] (n := wc.heap.size) rfl) _)) gr3.by_ (by intro eb; simp [Value.ownBlock] at eb)) | (have p81 : Blk w4 (wc.heap.size + 1) 23 #[.int .i64 ex, .int .i64 ey] := Blk.kp (Blk.drew (Blk.new_at (wc.alloc (.cells #[] 23)) 23 #[.int .i64 ex, .int .i64 ey] (n := wc.heap.size + 1) (by simp))) gr3.by_ (by intro eb; simp [Value.ownBlock] at eb)) | skip))
            | (refine step_appG2 (by rfl) (.tmp 72) (.tmp 73) 36 74 23 2 16 (.agg #[.int .i64 0, .int .i64 0]) (by rfl) Try.underlying36 Try.underlying74 infoVec rfl (by omega) wc.heap.size 0 n (.slice (some ⟨wc.heap.size + 1, 0, none⟩) 0 0) _ [] (T.flatMap vC) (by rfl) (by first | exact own_lit_at wc wc.heap.size rfl (Nat.le_refl _) | exact own_nw (own_lit_at wc wc.heap.size rfl (Nat.le_refl _)) ((nw_alloc _ (.cells #[.int .i64 ex, .int .i64 ey] 23)).drew) | exact own_lit_at (wc.alloc (.cells #[.int .i64 ex, .int .i64 ey] 23)) (wc.heap.size + 1) (by simp) (Nat.le_succ _)) (by rfl) (src_n (show SrcV _ (.slice (some ⟨g, oo, none⟩) T.length c5) T by rw [hTn2]; exact TC.out.nw (by repeat (first | exact hk5 | exact hk3 | exact Kp.refl _ _ | refine Kp.alloc ?_ _ | refine Kp.drew ?_))) hTn2) (flatV_one _) (by omega) (by omega) (by first | (simp; done) | (simp; omega)) ?_; intro v3 w4 own3 gr3; simp only [Nat.zero_add, List.nil_append] at own3; have hk3 : Nw wc w4 := gr3.nw (by repeat (first | exact hk5 | exact hk3 | exact Kp.refl _ _ | refine Kp.alloc ?_ _ | refine Kp.drew ?_)) (by intro kk hkk; simp [Value.ownBlock] at hkk; omega); (first | (have p81 : Blk w4 wc.heap.size 23 #[.int .i64 ex, .int .i64 ey] := Blk.kp (Blk.drew (Blk.alloc (Blk.new_at wc 23 #[.int .i64 ex, .int .i64 ey] (n := wc.heap.size) rfl) _)) gr3.by_ (by intro eb; simp [Value.ownBlock] at eb)) | (have p81 : Blk w4 (wc.heap.size + 1) 23 #[.int .i64 ex, .int .i64 ey] := Blk.kp (Blk.drew (Blk.new_at (wc.alloc (.cells #[] 23)) 23 #[.int .i64 ex, .int .i64 ey] (n := wc.heap.size + 1) (by simp))) gr3.by_ (by intro eb; simp [Value.ownBlock] at eb)) | skip))
            | (refine step_appG (by rfl) (.tmp 74) (.tmp 81) 36 23 2 16 (.agg #[.int .i64 0, .int .i64 0]) (by rfl) Try.underlying36 infoVec rfl (by omega) wc.heap.size n 1 v3 _ (T.flatMap vC) [.int .i64 ex, .int .i64 ey] (by rfl) (by first | exact own3 | exact own_nw own3 (nw_alloc _ _)) (by rfl) (by first | exact src_one p81 | exact src_one (Blk.new _ _ _)) (by intro u hu; simp at hu; rcases hu with rfl | rfl <;> rfl) (by omega) (by omega) (by have := hk3.size; simp; omega) ?_; intro v5 w5 own5 gr5; have hk5 : Nw wc w5 := gr5.nw (by repeat (first | exact hk5 | exact hk3 | exact Kp.refl _ _ | refine Kp.alloc ?_ _ | refine Kp.drew ?_)) (own_from own3)))
        all_goals (go_wp2_with fail; go_meet; case rel =>
          refine ⟨?_, hk5⟩
          have h := own_src own5
          show Src _ 2 _ (T ++ [(ex, ey)]).length _
          rw [HTW.out.2.2, List.flatMap_append]
          exact h)
      case rest =>
        obtain ⟨st, kt⟩ := hcut
        have N11 := Lib.hid (NC.out.tr kt)
        have T11 : SrcV wc (.slice (some ⟨g, oo, none⟩) n c5) T := TC.out.nw kt
        have S11 := SC.out.nw kt
        have hTn : T.length ≤ 1099511627776 := by rw [HF.out.2.2.2.2.1]; omega
        have b1 := ringReverse_any T (.slice (some ⟨g, oo, none⟩) n c5) wc T11 hTn
        have b2 := fun u w1 (s : SrcV w1 u T.reverse) => clean_any T.reverse u w1 s (by rw [List.length_reverse]; exact hTn)
        have b3 := fun u w1 (s : SrcV w1 u (T ++ [(ex, ey)])) => clean_any (T ++ [(ex, ey)]) u w1 s (by rw [HTW.out.2.2]; omega)
        rw [HTW.out.2.1] at b2
        rw [HTW.out.1] at b3
        have b4 := fun u v w1 (s : SrcV w1 u cl) (s2 : SrcV w1 v cl) => ringSame_any cl cl u v w1 s s2
        rw [decide_eq_true rfl] at b4
        clear T11 kt zz0 zz1 hTn
        go_wp2_with fail
        with_reducible refine b1.mono ?_
        rintro e x1 ⟨w12, rfl, o1, k1⟩
        have m1 := N11.out.tr k1
        have st1 := st.nw k1
        have sc1 := S11.nw k1
        clear k1 st S11 b1
        go_wp2_with fail
        with_reducible refine (b2 _ _ o1.src).mono ?_
        rintro e x2 ⟨w13, rfl, o2, k1⟩
        have m2 := m1.tr k1
        have st2 := st1.nw k1
        have sc2 := sc1.nw k1
        clear k1 st1 sc1 o1 m1 b2
        go_wp2_with fail
        with_reducible refine (b3 _ _ st2).mono ?_
        rintro e x3 ⟨w14, rfl, o3, k1⟩
        have m3 := m2.tr k1
        have sx3 := o2.src.nw k1
        have sc3 := sc2.nw k1
        clear k1 st2 sc2 o2 m2 b3
        go_wp2_with fail
        with_reducible refine (b4 _ _ _ sx3 sc3).mono ?_
        rintro e x4 ⟨rfl, k1⟩
        have m4 := m3.tr k1
        have sy4 := o3.src.nw k1
        have sc4 := sc3.nw k1
        clear k1 sx3 sc3 o3 m3
        go_wp2_with fail
        with_reducible refine (b4 _ _ _ sy4 sc4).mono ?_
        rintro e x5 ⟨rfl, k1⟩
        go_wp2_with fail
        go_ret
        exact ⟨rfl, HW0.out.tr (N6.out.tr (m4.tr k1))⟩)

set_option maxRecDepth 100000 in
set_option maxHeartbeats 3200000 in
theorem ringStart_any (l : List (Int × Int)) (v : Value) (b px py : Int) (hb : 0 ≤ b ∧ b < 256) (w : World) (hv : SrcV w v l) : Calls Try.prog 18 #[v, .int .u8 b, vV px py] w fun e w' => e = .returned (.bool true) ∧ Nw w w' := by
  have cf := fun w1 (h : Nw w w1) => few_any l v w1 (hv.nw h)
  by_cases h60 : l.length ≤ 60
  case neg =>
    rw [decide_eq_false h60] at cf
    clear hv
    go_enter Try.func18, Try.ntmps18
    go_wp2_with fail
    with_reducible refine (awake8_any _).mono ?_
    rintro e w1 ⟨rfl, k1⟩
    have n1 : Nw w w1 := Kp.tr (nw_alloc _ _) k1
    go_wp2_with fail
    with_reducible refine (cf _ n1).mono ?_
    rintro e w2 ⟨rfl, k2⟩
    go_wp2_with fail
    go_ret
    exact ⟨rfl, n1.tr k2⟩
  rw [decide_eq_true h60] at cf
  by_cases hvd : validR l = true
  case neg =>
    have hvd' : validR l = false := by simpa using hvd
    have cv := fun w1 (h : Nw w w1) => ringValid_any l v w1 (hv.nw h) (by omega)
    rw [hvd'] at cv
    clear hv hvd hvd' h60
    go_enter Try.func18, Try.ntmps18
    go_wp2_with fail
    with_reducible refine (awake8_any _).mono ?_
    rintro e w1 ⟨rfl, k1⟩
    have n1 : Nw w w1 := Kp.tr (nw_alloc _ _) k1
    go_wp2_with fail
    with_reducible refine (cf _ n1).mono ?_
    rintro e w2 ⟨rfl, k2⟩
    go_wp2_with fail
    with_reducible refine (cv _ (n1.tr k2)).mono ?_
    rintro e w3 ⟨rfl, k3⟩
    go_wp2_with fail
    go_ret
    exact ⟨rfl, (n1.tr k2).tr k3⟩
  obtain ⟨a, ha⟩ : ∃ a : Nat, b = (a : Int) := ⟨b.toNat, by omega⟩
  subst ha
  exact ringStart_walk l v a (by omega) px py w hv h60 hvd

end Go.Proofs.Ytahamffngmdjfaa.W

namespace Go.Proofs.Ytahamffngmdjfaa.W
open Go.ChangeShapes Go.WideShapes Go.ChangeAt Go.RowKit

theorem own : ownKnob Try.prog.godebug = none := by kernel_rfl
theorem laidOut : laidOutB Try.prog = true := by kernel_rfl

theorem args_below {H : Type} {enc : TypeId × Value → H} {W W' : World} (hb : Below W.heap.size W W') : ∀ (ts : List TypeId) (vs : List Value) (ds : List (DataW H)) (ps : List MemPlace),
    (∀ t ∈ ts, Try.prog.readableRec t = true ∧ t < Try.prog.types.size) → (∀ x ∈ ps, x.block < W.heap.size) →
    DataW.TrodAll enc Try.prog W 0 (fun _ => true) true ts vs ds ps → DataW.TrodAll enc Try.prog W' 0 (fun b => decide (b < W.heap.size)) true ts vs ds ps := by
  intro ts
  induction ts with
  | nil =>
    intro vs ds ps _ _ h
    obtain ⟨rfl, rfl, rfl⟩ := trodAll_nil h
    exact trodAll_mk0
  | cons t ts ih =>
    intro vs ds ps ht hlt h
    obtain ⟨v, vs', d, ds', p, q, rfl, rfl, rfl, h0, hr⟩ := trodAll_cons h
    refine trodAll_cons_mk (Below.trod laidOut (ht t (by simp)).1 (ht t (by simp)).2 h0 hb (fun x hx => hlt x (by simp [hx]))) (ih vs' ds' q (fun t' h' => ht t' (by simp [h'])) (fun x hx => hlt x (by simp [hx])) hr)

theorem law_post {H : Type} {enc : TypeId × Value → H} {f : Func} {s : ChangeSpec} {W W' : World} {args : Array Value} {ds gs : List (DataW H)} {before : List MemPlace}
    (hW : DataW.Whole enc Try.prog f.params.toList s.vars false W args.toList ds gs before) (hb : Below W.heap.size W W') (hv : s.vars = []) (hr : f.resultTypes = #[4])
    (ht : ∀ t ∈ f.params.toList, Try.prog.readableRec t = true ∧ t < Try.prog.types.size)
    (hs : gs = [] → (s.fn H (ds ++ gs)).results = [.lit (.bool true)] ∧ (s.fn H (ds ++ gs)).args = ds ∧ (s.fn H (ds ++ gs)).vars = []) :
    s.post enc Try.prog f false true false false W args (.bool true) W' := by
  have hlt := hW.lt
  have hW0 := hW
  obtain ⟨p, q, hA, hV, rfl, _, _⟩ := hW
  rw [hv] at hV
  obtain ⟨rfl, rfl⟩ := trodVars_none hV
  obtain ⟨h1, h2, h3⟩ := hs rfl
  refine ⟨ds, [], p ++ [], [], p, [], hW0, ?_, ?_, ?_, World.keptBut_mono (fun x hx => ?_) (hb.frame (· ∈ p ++ [])), fun h => by cases h⟩
  · rw [h1, hr]
    exact trodAll_cons_mk (shut_bool Try.underlying4 true) trodAll_mk0
  · rw [h2]
    exact args_below hb _ _ _ _ ht (fun x hx => hlt x (by simp [hx])) hA
  · rw [h3, hv]
    rfl
  · exact ⟨hx, .inr (.inl (by simpa using hx))⟩
end Go.Proofs.Ytahamffngmdjfaa.W

namespace Go.Proofs.Ytahamffngmdjfaa.W
open Go.ChangeShapes Go.WideShapes Go.ChangeAt Go.RowKit Go.Deep

theorem u64_of {x : Int} (h : (Lit.int .u64 x).wf = true) : 0 ≤ x ∧ x < 18446744073709551616 := by
  simp only [Lit.wf, Bool.and_eq_true, decide_eq_true_eq] at h
  have e1 : IntKind.u64.min = 0 := rfl
  have e2 : IntKind.u64.max = 18446744073709551615 := rfl
  exact ⟨by omega, by omega⟩
theorem u16_of {x : Int} (h : (Lit.int .u16 x).wf = true) : 0 ≤ x ∧ x < 65536 := by
  simp only [Lit.wf, Bool.and_eq_true, decide_eq_true_eq] at h
  have e1 : IntKind.u16.min = 0 := rfl
  have e2 : IntKind.u16.max = 65535 := rfl
  exact ⟨by omega, by omega⟩
theorem u8_of {x : Int} (h : (Lit.int .u8 x).wf = true) : 0 ≤ x ∧ x < 256 := by
  simp only [Lit.wf, Bool.and_eq_true, decide_eq_true_eq] at h
  have e1 : IntKind.u8.min = 0 := rfl
  have e2 : IntKind.u8.max = 255 := rfl
  exact ⟨by omega, by omega⟩
theorem i64_of {x : Int} (h : (Lit.int .i64 x).wf = true) : -9223372036854775808 ≤ x ∧ x ≤ 9223372036854775807 := by
  simp only [Lit.wf, Bool.and_eq_true, decide_eq_true_eq] at h
  have e1 : IntKind.i64.min = -9223372036854775808 := rfl
  have e2 : IntKind.i64.max = 9223372036854775807 := rfl
  exact ⟨by omega, by omega⟩

section
variable {H : Type} {enc : TypeId × Value → H} {W : World} {base : Nat} {v : Value} {d : DataW H} {p : List MemPlace}

set_option maxRecDepth 100000 in
theorem openRows {α : Type} [Inhabited α] {T E size : Nat} {f : α → List Value} {P : α → Prop} (hu : Try.prog.underlying T = some (.slice E)) (hC : Try.prog.cellsOf E = size) (hs0 : 0 < size) (hf : ∀ x, (f x).length = size)
    (hopen : ∀ n cs y, DataW.trod enc Try.prog W 0 (fun _ => true) true n E cs = some y → ∃ x, cs = f x ∧ P x)
    (hv : Value.okWide Try.prog W .any base T v) (h : DataW.Trod enc Try.prog W 0 (fun _ => true) true T v d p) :
    ∃ l : List α, Src W size v l.length (flat f l) ∧ (∀ x ∈ l, P x) ∧ (l = [] ∨ ∃ es sp, d = .slice es sp ∧ es.length = l.length) := by
  obtain ⟨a0, len0, cap0, rfl⟩ := okWide_slice hu hv
  obtain ⟨fuel, hf0⟩ := h
  rcases open_slice hu hf0 with ⟨hcs, hx⟩ | ⟨a, len, cap, m, n, D, Pl, hcs, hb, hl, hm, hmm, hx, hi⟩
  · simp [Value.cells] at hcs
    obtain ⟨rfl, rfl, rfl⟩ := hcs
    exact ⟨[], Src.nil W size, fun x hx => absurd hx List.not_mem_nil, .inl rfl⟩
  · simp [Value.cells] at hcs
    obtain ⟨rfl, rfl, rfl⟩ := hcs
    simp only [Prod.mk.injEq] at hx
    obtain ⟨rfl, rfl⟩ := hx
    simp only [if_true] at hmm
    have hel : ∀ i, i < len0 → ∃ x, P x ∧ ∀ j u, (f x)[j]? = some u → W.cell? (a.add (i * size + j)) = some u := fun i hlt => by
      obtain ⟨cs', hc, ht⟩ := hi i (by omega)
      obtain ⟨x, rfl, hp⟩ := hopen _ _ _ ht
      rw [hC] at hc
      obtain ⟨_, hcl, hat⟩ := World.cells?_some hc
      refine ⟨x, hp, fun j u hj => ?_⟩
      have hjl : j < size := by
        have := (List.getElem?_eq_some_iff.1 hj).1
        rw [hf] at this
        exact this
      rw [← Go.Deep.add_add, hat j hjl]
      exact hj
    let g : Nat → α := fun i => if h : i < len0 then Classical.choose (hel i h) else default
    have hg : ∀ i, i < len0 → P (g i) ∧ ∀ j u, (f (g i))[j]? = some u → W.cell? (a.add (i * size + j)) = some u := fun i hlt => by
      have : g i = Classical.choose (hel i hlt) := dif_pos hlt
      rw [this]
      exact Classical.choose_spec (hel i hlt)
    have hlen : ((List.range len0).map g).length = len0 := by simp
    refine ⟨(List.range len0).map g, ⟨?_, some a, cap0, by rw [hlen], by rw [hlen]; exact hl, hm, fun hn => ?_⟩, fun x hx => ?_, .inr ⟨_, _, rfl, by simp⟩⟩
    · rw [flat_length hf]
    · rw [hlen] at hn
      have hat : ∀ i j u, i < len0 → (f (g i))[j]? = some u → W.cell? (a.add (i * size + j)) = some u := fun i j u hlt hj => (hg i hlt).2 j u hj
      have hne : ∃ u, (f (g 0))[0]? = some u := ⟨_, List.getElem?_eq_getElem (by rw [hf]; exact hs0)⟩
      obtain ⟨u0, hu0⟩ := hne
      have h0 := hat 0 0 u0 hn hu0
      obtain ⟨gb, o, sp⟩ := a
      have hsp : sp = none := by simpa [Addr.add] using World.cell?_spot h0
      subst hsp
      have hbl : gb < W.heap.size := by
        have := World.block_lt_of_cell? W _ h0
        rwa [block_add] at this
      refine ⟨gb, o, rfl, hbl, fun j u hj => ?_⟩
      have hjl := (List.getElem?_eq_some_iff.1 hj).1
      rw [flat_length hf, hlen] at hjl
      have hq : j / size < len0 := Nat.div_lt_of_lt_mul (by rw [Nat.mul_comm]; exact hjl)
      have hjm := Nat.div_add_mod j size
      have hr : j % size < size := Nat.mod_lt _ hs0
      have hx : ((List.range len0).map g)[j / size]? = some (g (j / size)) := by rw [List.getElem?_map, List.getElem?_range hq]; rfl
      have ej : j = j / size * size + j % size := by rw [Nat.mul_comm]; exact hjm.symm
      rw [ej, flat_at hf (j % size) hx hr] at hj
      have := hat _ _ _ hq hj
      rw [← ej] at this
      rw [addr_lit _ j rfl] at this
      exact this
    · obtain ⟨i, hi', rfl⟩ := List.mem_map.1 hx
      exact (hg i (List.mem_range.1 hi')).1
end

theorem sizedLen {H : Type} {ts : List TypeId} {ds : List (DataW H)} {j : Nat} {t e : TypeId} {d : DataW H} {n b : Nat} (h : (DataW.weightsEach Try.prog ts ds).all (· ≤ reachBytes) = true) (ht : ts[j]? = some t) (hd : ds[j]? = some d) (hu : Try.prog.underlying t = some (.slice e))
    (hb : Try.prog.bytesOf e = b) (hb1 : 1 ≤ b) (hs : n = 0 ∨ ∃ es sp, d = .slice es sp ∧ es.length = n) : n ≤ 140737488355328 := by
  rcases hs with h0 | ⟨es, sp, rfl, rfl⟩
  · omega
  · have := sized_slice h ht hd hu
    rw [hb] at this
    simp only [reachBytes] at this
    have h2 : es.length ≤ (es.length + sp.length) * b := Nat.le_trans (Nat.le_add_right _ _) (Nat.le_mul_of_pos_right _ hb1)
    omega
end Go.Proofs.Ytahamffngmdjfaa.W

namespace Go.Proofs.Ytahamffngmdjfaa.W
open Go.ChangeShapes Go.WideShapes Go.ChangeAt Go.RowKit Go.Joins Go.Deep Go.Proofs.Ytahamffngmdjfaa.V

set_option maxRecDepth 100000
section
variable {H : Type} {enc : TypeId × Value → H} {W : World} {base : Nat} {v : Value} {d : DataW H} {p : List MemPlace}
theorem cellsOfInt : Try.prog.cellsOf 3 = 1 := by kernel_rfl
theorem cellsOfVec : Try.prog.cellsOf 23 = 2 := by kernel_rfl
theorem cellsOfBox : Try.prog.cellsOf 38 = 4 := by kernel_rfl

theorem trod_vec {n : Nat} {cs : List Value} {y : DataW H × List MemPlace} (h : DataW.trod enc Try.prog W 0 (fun _ => true) true n 23 cs = some y) : ∃ x : Int × Int, cs = vC x := by
  obtain ⟨y0, y1, m, _, hl, h0, h1⟩ := trod_struct2 Try.underlying23 h
  rw [cellsOfVec] at hl
  match cs, hl with
  | [a, b], _ =>
    have h0 : DataW.trod enc Try.prog W 0 (fun _ => true) true m 3 [a] = some y0 := h0
    have h1 : DataW.trod enc Try.prog W 0 (fun _ => true) true m 3 [b] = some y1 := h1
    obtain ⟨x0, e0, _, _⟩ := DataW.trod_int Try.underlying3 h0
    obtain ⟨x1, e1, _, _⟩ := DataW.trod_int Try.underlying3 h1
    simp at e0 e1
    subst e0 e1
    exact ⟨(x0, x1), rfl⟩
theorem okWide_struct {P : Program} {r : Reach} {fs : Array Field} {t : TypeId} {v : Value} (ht : P.underlying t = some (.struct fs)) (h : Value.okWide P W r base t v) : ∃ cs, v = .agg cs ∧ cs.size = P.cellsOf t := by
  simp only [Value.okWide, ht] at h
  obtain ⟨cs, h1, h2, _⟩ := h
  exact ⟨cs, h1, h2⟩
theorem okWide_arr {P : Program} {r : Reach} {n : Nat} {e t : TypeId} {v : Value} (ht : P.underlying t = some (.array n e)) (h : Value.okWide P W r base t v) : ∃ cs, v = .agg cs ∧ cs.size = P.cellsOf t := by
  simp only [Value.okWide, ht] at h
  obtain ⟨cs, h1, h2, _⟩ := h
  exact ⟨cs, h1, h2⟩
theorem open_vec (hv : Value.okWide Try.prog W .any base 23 v) (h : DataW.Trod enc Try.prog W 0 (fun _ => true) true 23 v d p) :
    ∃ n d : Int, v = vV n d := by
  obtain ⟨cs, rfl, hs⟩ := okWide_struct Try.underlying23 hv
  obtain ⟨fuel, hf⟩ := h
  obtain ⟨x, hx⟩ := trod_vec hf
  obtain ⟨l⟩ := cs
  exact ⟨x.1, x.2, by simp [Value.cells] at hx; rw [hx]⟩
theorem open_box (hv : Value.okWide Try.prog W .any base 38 v) (h : DataW.Trod enc Try.prog W 0 (fun _ => true) true 38 v d p) :
    ∃ a b c d : Int, v = bV a b c d := by
  obtain ⟨cs, rfl, hs⟩ := okWide_struct Try.underlying38 hv
  obtain ⟨fuel, hf⟩ := h
  obtain ⟨y0, y1, m, _, hl, h0, h1⟩ := trod_struct2 Try.underlying38 hf
  obtain ⟨l⟩ := cs
  rw [cellsOfBox] at hl
  match l, hl with
  | [a, b, c, e], _ =>
    have h0 : DataW.trod enc Try.prog W 0 (fun _ => true) true m 23 [a, b] = some y0 := h0
    have h1 : DataW.trod enc Try.prog W 0 (fun _ => true) true m 23 [c, e] = some y1 := h1
    obtain ⟨x0, e0⟩ := trod_vec h0
    obtain ⟨x1, e1⟩ := trod_vec h1
    simp at e0 e1
    obtain ⟨rfl, rfl⟩ := e0
    obtain ⟨rfl, rfl⟩ := e1
    exact ⟨_, _, _, _, rfl⟩
theorem open_arr3 (hv : Value.okWide Try.prog W .any base 31 v) (h : DataW.Trod enc Try.prog W 0 (fun _ => true) true 31 v d p) :
    ∃ a b c d e f : Int, v = .agg #[.int .i64 a, .int .i64 b, .int .i64 c, .int .i64 d, .int .i64 e, .int .i64 f] := by
  obtain ⟨cs, rfl, hs⟩ := okWide_arr Try.underlying31 hv
  obtain ⟨fuel, hf⟩ := h
  obtain ⟨xs, m, _, _, _, hl, hi⟩ := DataW.trod_array Try.underlying31 hf
  obtain ⟨l⟩ := cs
  have hs : l.length = 6 := hs.trans (show Try.prog.cellsOf 31 = 6 by kernel_rfl)
  match l, hs with
  | [a0, a1, a2, a3, a4, a5], _ =>
    have hg : ∀ i, i < 3 → ∃ y, DataW.trod enc Try.prog W 0 (fun _ => true) true m 23 (([a0, a1, a2, a3, a4, a5].drop (i * 2)).take 2) = some y := fun i hi' => by
      have h := hi i hi'
      rw [cellsOfVec, List.getElem?_eq_getElem (by omega)] at h
      exact ⟨_, h⟩
    obtain ⟨_, g0⟩ := hg 0 (by omega)
    obtain ⟨_, g1⟩ := hg 1 (by omega)
    obtain ⟨_, g2⟩ := hg 2 (by omega)
    obtain ⟨x0, e0⟩ := trod_vec g0
    obtain ⟨x1, e1⟩ := trod_vec g1
    obtain ⟨x2, e2⟩ := trod_vec g2
    simp at e0 e1 e2
    obtain ⟨rfl, rfl⟩ := e0
    obtain ⟨rfl, rfl⟩ := e1
    obtain ⟨rfl, rfl⟩ := e2
    exact ⟨_, _, _, _, _, _, rfl⟩
theorem open_arr4 (hv : Value.okWide Try.prog W .any base 133 v) (h : DataW.Trod enc Try.prog W 0 (fun _ => true) true 133 v d p) :
    ∃ a b c d e f g h : Int, v = .agg #[.int .i64 a, .int .i64 b, .int .i64 c, .int .i64 d, .int .i64 e, .int .i64 f, .int .i64 g, .int .i64 h] := by
  obtain ⟨cs, rfl, hs⟩ := okWide_arr Try.underlying133 hv
  obtain ⟨fuel, hf⟩ := h
  obtain ⟨xs, m, _, _, _, hl, hi⟩ := DataW.trod_array Try.underlying133 hf
  obtain ⟨l⟩ := cs
  have hs : l.length = 8 := hs.trans (show Try.prog.cellsOf 133 = 8 by kernel_rfl)
  match l, hs with
  | [a0, a1, a2, a3, a4, a5, a6, a7], _ =>
    have hg : ∀ i, i < 4 → ∃ y, DataW.trod enc Try.prog W 0 (fun _ => true) true m 23 (([a0, a1, a2, a3, a4, a5, a6, a7].drop (i * 2)).take 2) = some y := fun i hi' => by
      have h := hi i hi'
      rw [cellsOfVec, List.getElem?_eq_getElem (by omega)] at h
      exact ⟨_, h⟩
    obtain ⟨_, g0⟩ := hg 0 (by omega)
    obtain ⟨_, g1⟩ := hg 1 (by omega)
    obtain ⟨_, g2⟩ := hg 2 (by omega)
    obtain ⟨_, g3⟩ := hg 3 (by omega)
    obtain ⟨x0, e0⟩ := trod_vec g0
    obtain ⟨x1, e1⟩ := trod_vec g1
    obtain ⟨x2, e2⟩ := trod_vec g2
    obtain ⟨x3, e3⟩ := trod_vec g3
    simp at e0 e1 e2 e3
    obtain ⟨rfl, rfl⟩ := e0
    obtain ⟨rfl, rfl⟩ := e1
    obtain ⟨rfl, rfl⟩ := e2
    obtain ⟨rfl, rfl⟩ := e3
    exact ⟨_, _, _, _, _, _, _, _, rfl⟩
theorem open_vecs (hv : Value.okWide Try.prog W .any base 36 v) (h : DataW.Trod enc Try.prog W 0 (fun _ => true) true 36 v d p) :
    ∃ l : List (Int × Int), SrcV W v l ∧ (l = [] ∨ ∃ es sp, d = .slice es sp ∧ es.length = l.length) := by
  obtain ⟨l, h1, _, h2⟩ := openRows (P := fun _ => True) Try.underlying36 cellsOfVec (by omega) (f := vC) (fun _ => rfl) (fun n cs y h => by
    obtain ⟨x, hx⟩ := trod_vec h
    exact ⟨x, hx, trivial⟩) hv h
  exact ⟨l, h1, h2⟩
end
end Go.Proofs.Ytahamffngmdjfaa.W
