/-
  ring: Clean: what it returns. Condition: the list is not longer than 2^40.
  ring: the document's example holds: awake returns true. No condition.
  ring: the reference's Where and Few; the law RingWhere: it returns true. No condition but that the list is not longer than 2^40.
  RingWhere: the law returns true, whatever its arguments. Condition: the list is not longer than 2^40.
  The last step of each statement: where the call returns true and writes nothing that was there, the row's own post holds. Condition: the arguments' types are readable.
  The arguments of a statement: a slice whose elements are read reads as a list. No condition.
  The arguments of the statements on vectors: a vector, a box, an array of vectors by value, a list of vectors, an int. No condition.
  An argument that is a vector by value, and that its coordinates are ints. No condition.
  An argument that is a ring: a list of vectors in memory. No condition.
  The arguments of the statements on segments: a segment, a rational point. No condition.
-/
import Derived.Test.YthiabmcfooobfaaK24
import Derived.Test.YthiabmcfooobfaaK15
import Derived.Test.YthiabmcfooobfaaK25
import Derived.Test.YthiabmcfooobfaaRows
import Derived.WalkKit
import Derived.ProofKit
import Derived.SizedLaws
import Derived.OpenShut
import Derived.Lib.SmallJoins
import Derived.Test.YthiabmcfooobfaaK01
import Derived.Deep.Slices
import Derived.ChangeMaps5
import Derived.Deep.Strs
namespace Go.Proofs.Ythiabmcfooobfaa.W
open Go.RowKit Go.Proofs.Ythiabmcfooobfaa.V Go.Proofs.Ythiabmcfooobfaa.G


def lenV : Value → Nat
  | .slice _ n _ => n
  | _ => 0
theorem clean_len : ∀ (f : Nat) (l : List Pt), (cleanTo f l).length ≤ l.length
  | 0, l => Nat.le_refl _
  | f + 1, l => by
    unfold cleanTo
    split
    · rename_i h
      have := clean_len f (l.eraseIdx (need l))
      rw [List.length_eraseIdx_of_lt h] at this
      omega
    · exact Nat.le_refl _
theorem own_shape {w0 w : World} {v : Value} {l : List (Int × Int)} (h : OwnL w0 w v l) : ∃ A c, v = .slice A l.length c := h.src.shape
theorem own_back {w0 w1 w2 : World} {v : Value} {l : List (Int × Int)} (h : OwnL w1 w2 v l) (k : Nw w0 w1) : OwnL w0 w2 v l := by
  rcases h with ⟨kk, cap, h1, h2, h3⟩ | h
  · exact .inl ⟨kk, cap, h1, Nat.le_trans k.size h2, h3⟩
  · exact .inr h

set_option maxRecDepth 100000 in
set_option maxHeartbeats 6400000 in
theorem clean_any (l : List (Int × Int)) (v : Value) (w : World) (hv : SrcV w v l) (hl : l.length ≤ 1099511627776) : Calls Try.prog 87 #[v] w fun e w' => ∃ v', e = .returned (.tuple #[v', .int .i64 (cleanR l).2]) ∧ OwnL w w' v' (cleanR l).1 ∧ Nw w w' := by
  have hmix := mixed7
  have cw := isWithinL_any l v w hv
  have cc := fun w1 (h : Nw w w1) => vclone_any l v w1 (hv.nw h) hl
  obtain ⟨A, c, rfl⟩ := hv.shape
  obtain ⟨n, hn⟩ : ∃ n, l.length = n := ⟨_, rfl⟩
  rw [hn] at cw cc hl ⊢
  by_cases h200 : 200 < n
  · have hi : (200 : Int) < (n : Int) := by omega
    rw [show cleanR l = ([], 9) by unfold cleanR; rw [hn, if_pos h200]]
    clear hv cc cw
    go_enter Try.func87, Try.ntmps87
    go_wp2_with fail
    go_ret2
    exact ⟨_, rfl, .inr ⟨rfl, none, 0, rfl, Nat.zero_le _⟩, Kp.refl _ _⟩
  have hi : ¬ ((200 : Int) < (n : Int)) := by omega
  obtain ⟨b, hb⟩ : ∃ b, allW l = b := ⟨_, rfl⟩
  rw [hb] at cw
  cases b with
  | false =>
    rw [show cleanR l = ([], 2) by unfold cleanR; rw [hn, if_neg h200, hb]; rfl]
    clear hv cc hb h200
    go_enter Try.func87, Try.ntmps87
    go_wp2_with fail
    with_reducible refine cw.mono ?_
    rintro e w1 ⟨rfl, k1⟩
    go_wp2_with fail
    go_ret2
    exact ⟨_, rfl, .inr ⟨rfl, none, 0, rfl, Nat.zero_le _⟩, k1⟩
  | true =>
    have hR : cleanR l = if !validR (turnedL (cleanL l)) then ([], 11) else (beginL (turnedL (cleanL l)), 0) := by unfold cleanR; rw [hn, if_neg h200, hb]; rfl
    have HR := Lib.hid hR
    have HN := Lib.hid hn
    have H200 := Lib.hid h200
    clear hv hb hR hn h200 hl
    go_enter Try.func87, Try.ntmps87
    go_wp2_with fail
    with_reducible refine cw.mono ?_
    rintro e w1 ⟨rfl, k1⟩
    go_wp2_with fail
    with_reducible refine (cc _ k1).mono ?_
    rintro e w2 ⟨v2, rfl, o2, k2⟩
    have o2' := own_back o2 k1
    have HK2 := Lib.hid (k1.tr k2)
    have HO2 := Lib.hid o2'
    clear o2 k1 k2 cc cw o2'
    go_wp2_with fail
    with_reducible refine (needless_any l v2 _ HO2.out.src (by have := HN.out; have := H200.out; omega)).mono ?_
    rintro e w3 ⟨rfl, k3⟩
    have HK3 := Lib.hid (HK2.out.tr k3)
    have HO3 := Lib.hid (HO2.out.nw k3)
    clear k3
    go_wp2_with fail
    go_loopw [4, 5] (fun r i wr => ∃ m : List (Int × Int), i = .int .i64 (need m) ∧ OwnL w wr r m ∧ cleanL m = cleanL l ∧ m.length ≤ n ∧ Nw w wr) (fun r i _ => lenV r)
    case atStart => exact ⟨l, rfl, HO3.out, rfl, by rw [HN.out]; exact Nat.le_refl _, HK3.out⟩
    case round =>
      obtain ⟨m, rfl, ho, hcl, hmn, hnw⟩ := hrel
      obtain ⟨A1, c1, rfl⟩ := own_shape ho
      have HO := Lib.hid ho
      have HK := Lib.hid hnw
      have HCL := Lib.hid hcl
      have HMN := Lib.hid hmn
      have hmb : m.length ≤ 1099511627776 := by have := H200.out; omega
      clear ho hnw hcl hmn
      by_cases hne : need m < m.length
      · have i1 : ((need m : Nat) : Int) < ((m.length : Nat) : Int) := by omega
        obtain ⟨k, hk⟩ : ∃ k, need m = k := ⟨_, rfl⟩
        obtain ⟨J, hJ⟩ : ∃ J, k + 1 = J := ⟨_, rfl⟩
        have a4 : IntKind.i64.wrap ((k : Int) + 1) = (J : Int) := by rw [IntKind.wrap_i64]; omega
        have cd := sDelete_any m _ w wr HO.out HK.out hmb k J (by rw [← hk]; exact hne) hJ
        have HC2 := Lib.hid (show cleanL (m.eraseIdx k) = cleanL l by rw [← HCL.out, ← hk]; exact clean_step hne)
        have HE := Lib.hid (show (m.eraseIdx k).length = m.length - 1 ∧ 0 < m.length by exact ⟨List.length_eraseIdx_of_lt (by rw [← hk]; exact hne), by omega⟩)
        rw [hk] at i1 ⊢
        clear hk hJ
        go_wp2_with fail
        with_reducible refine cd.mono ?_
        rintro e w4 ⟨v4, rfl, o4, k4⟩
        have HO4 := Lib.hid o4
        have HK4 := Lib.hid k4
        clear o4 k4 cd
        go_wp2_with fail
        with_reducible refine (needless_any (m.eraseIdx k) v4 _ HO4.out.src (by have := HE.out.1; omega)).mono ?_
        rintro e w5 ⟨rfl, k5⟩
        obtain ⟨A5, c5, rfl⟩ := own_shape HO4.out
        go_wp2_with fail
        go_roundw
        case rel => exact ⟨_, rfl, HO4.out.nw k5, HC2.out, by have := HE.out.1; have := HMN.out; omega, HK4.out.tr k5⟩
        case measure => (have := HE.out; simp [lenV]; omega)
      · have i1 : ¬ (((need m : Nat) : Int) < ((m.length : Nat) : Int)) := by omega
        obtain ⟨C, hC⟩ : ∃ C, cleanL l = C := ⟨_, rfl⟩
        have hmC : m = C := by rw [← hC, ← HCL.out, clean_end hne]
        subst hmC
        have HR2 := Lib.hid (show cleanR l = if !validR (turnedL m) then ([], 11) else (beginL (turnedL m), 0) by rw [HR.out, hC])
        clear hC
        go_wp2_with fail
        with_reducible refine (dArea_any m _ _ HO.out.src hmb).mono ?_
        rintro e w4 ⟨rfl, k4⟩
        have HK4 := Lib.hid (HK.out.tr k4)
        have HO4 := Lib.hid (HO.out.nw k4)
        clear k4
        obtain ⟨a, ha⟩ : ∃ a, areaP m = a := ⟨_, rfl⟩
        rw [ha]
        obtain ⟨T, hT⟩ : ∃ T, turnedL m = T := ⟨_, rfl⟩
        have HTL := Lib.hid (show T.length ≤ 1099511627776 by
          rw [← hT]; unfold turnedL; split
          · rw [List.length_reverse]; exact hmb
          · exact hmb)
        have HR3 := Lib.hid (show cleanR l = if !validR T then ([], 11) else (beginL T, 0) by rw [HR2.out, hT])
        have hT2 : T = if a < 0 then m.reverse else m := by rw [← hT, ← ha]; rfl
        have HTT := Lib.hid hT2
        clear ha hT hT2 HR2 i1 hne HR
        by_cases h0 : a < 0
        · go_wp2_with fail
          with_reducible refine (sReverse_any m _ w w4 HO4.out HK4.out hmb).mono ?_
          rintro e w5 ⟨rfl, o5, k5⟩
          rw [show m.reverse = T by rw [HTT.out, if_pos h0]] at o5
          have HO5 := Lib.hid o5
          have HK5 := Lib.hid k5
          clear o5 k5
          go_wp2_with fail
          with_reducible refine (ringValid_any T _ _ HO5.out.src HTL.out).mono ?_
          rintro e w6 ⟨rfl, k6⟩
          have HO6 := Lib.hid (HO5.out.nw k6)
          have HK6 := Lib.hid (HK5.out.tr k6)
          clear k6
          obtain ⟨b, hb⟩ : ∃ b, validR T = b := ⟨_, rfl⟩
          rw [hb]
          have HB := Lib.hid hb
          clear hb
          cases b
          · go_wp2_with fail
            go_ret2
            rw [HR3.out, HB.out]
            exact ⟨_, rfl, .inr ⟨rfl, none, 0, rfl, Nat.zero_le _⟩, HK6.out⟩
          · go_wp2_with fail
            with_reducible refine (canon_any T _ _ HO6.out.src HTL.out).mono ?_
            rintro e w7 ⟨v7, rfl, o7, k7⟩
            go_wp2_with fail
            go_ret2
            rw [HR3.out, HB.out]
            rw [show canonR T = beginL T by unfold canonR; rw [HB.out]; rfl] at o7
            exact ⟨_, rfl, own_back o7 HK6.out, HK6.out.tr k7⟩
        · have hmT := Lib.hid (show m = T by rw [HTT.out, if_neg h0])
          have HO5 := Lib.hid (show OwnL w w4 (.slice A1 m.length c1) T by rw [← hmT.out]; exact HO4.out)
          have HK5 := Lib.hid HK4.out
          go_wp2_with fail
          with_reducible refine (ringValid_any T _ _ HO5.out.src HTL.out).mono ?_
          rintro e w6 ⟨rfl, k6⟩
          have HO6 := Lib.hid (HO5.out.nw k6)
          have HK6 := Lib.hid (HK5.out.tr k6)
          clear k6
          obtain ⟨b, hb⟩ : ∃ b, validR T = b := ⟨_, rfl⟩
          rw [hb]
          have HB := Lib.hid hb
          clear hb
          cases b
          · go_wp2_with fail
            go_ret2
            rw [HR3.out, HB.out]
            exact ⟨_, rfl, .inr ⟨rfl, none, 0, rfl, Nat.zero_le _⟩, HK6.out⟩
          · go_wp2_with fail
            with_reducible refine (canon_any T _ _ HO6.out.src HTL.out).mono ?_
            rintro e w7 ⟨v7, rfl, o7, k7⟩
            go_wp2_with fail
            go_ret2
            rw [HR3.out, HB.out]
            rw [show canonR T = beginL T by unfold canonR; rw [HB.out]; rfl] at o7
            exact ⟨_, rfl, own_back o7 HK6.out, HK6.out.tr k7⟩

end Go.Proofs.Ythiabmcfooobfaa.W

namespace Go.Proofs.Ythiabmcfooobfaa.W
open Go.RowKit Go.Proofs.Ythiabmcfooobfaa.V Go.Proofs.Ythiabmcfooobfaa.G


def sqL (n : Int) : List Pt := [(0, 0), (n, 0), (n, n), (0, n)]
def awL : List Pt := [(4, 4), (4, 0), (2, 0), (0, 0), (0, 4)]
theorem aw8_clean : cleanR awL = (sqL 4, 0) := by decide +kernel
theorem aw8_area : area2R (sqL 4) = 32 := by decide +kernel
theorem aw8_in : whereR (sqL 4) 2 2 1 = 2 := by decide +kernel
theorem aw8_on : whereR (sqL 4) 4 1 1 = 1 := by decide +kernel
theorem aw8_out : whereR (sqL 4) 5 5 1 = 0 := by decide +kernel
theorem aw8_valid : validR (sqL 4) = true := by decide +kernel
theorem aw8_convex : convexR (sqL 4) = true := by decide +kernel

set_option maxRecDepth 100000 in
set_option maxHeartbeats 3200000 in
theorem square_any (n : Int) (w : World) : Calls Try.prog 113 #[.int .i64 n] w fun e w' => ∃ v', e = .returned v' ∧ SrcV w' v' (sqL n) ∧ Nw w w' := by
  have hb := Blk.new w 23 #[.int .i64 0, .int .i64 0, .int .i64 n, .int .i64 0, .int .i64 n, .int .i64 n, .int .i64 0, .int .i64 n]
  have hs := src_blk (l := sqL n) hb (by simp [sqL])
  go_enter Try.func113, Try.ntmps113
  go_wp2_with fail
  go_ret
  exact ⟨_, rfl, hs, nw_alloc _ _⟩

set_option maxRecDepth 100000 in
set_option maxHeartbeats 6400000 in
theorem awake8_any (w : World) : Calls Try.prog 74 #[] w fun e w' => e = .returned (.bool true) ∧ Nw w w' := by
  have hmix := mixed7
  have c0 := fun w1 => square_any 4 w1
  go_enter Try.func74, Try.ntmps74
  go_wp2_with fail
  with_reducible refine (c0 _).mono ?_
  rintro e w1 ⟨v1, rfl, s1, k1⟩
  have hb := Blk.new w1 23 #[.int .i64 4, .int .i64 4, .int .i64 4, .int .i64 0, .int .i64 2, .int .i64 0, .int .i64 0, .int .i64 0, .int .i64 0, .int .i64 4]
  have hs : SrcV _ (.slice (some ⟨w1.heap.size, 0, none⟩) 5 5) awL := src_blk (l := awL) hb (by simp [awL])
  have cc := clean_any awL _ _ hs (by simp [awL])
  rw [aw8_clean] at cc
  have hN1 := k1.alloc (.cells #[.int .i64 4, .int .i64 4, .int .i64 4, .int .i64 0, .int .i64 2, .int .i64 0, .int .i64 0, .int .i64 0, .int .i64 0, .int .i64 4] 23)
  have s1a := s1.nw (nw_alloc w1 (.cells #[.int .i64 4, .int .i64 4, .int .i64 4, .int .i64 0, .int .i64 2, .int .i64 0, .int .i64 0, .int .i64 0, .int .i64 0, .int .i64 4] 23))
  clear hs hb s1 k1 c0
  go_wp2_with fail
  with_reducible refine cc.mono ?_
  rintro e w2 ⟨v2, rfl, o2, k2⟩
  have s2 := o2.src
  have s1b := s1a.nw k2
  have h2 := hN1.tr k2
  clear cc o2 k2 s1a hN1
  have hl : (sqL 4).length ≤ 1099511627776 := by simp [sqL]
  have ca := fun w3 (h : Nw w2 w3) => area2_any (sqL 4) v1 w3 (s1b.nw h) hl
  have cx := fun w3 (h : Nw w2 w3) => where_any (sqL 4) v1 2 2 w3 (s1b.nw h) hl
  have cy := fun w3 (h : Nw w2 w3) => where_any (sqL 4) v1 4 1 w3 (s1b.nw h) hl
  have cz := fun w3 (h : Nw w2 w3) => where_any (sqL 4) v1 5 5 w3 (s1b.nw h) hl
  have cv := fun w3 (h : Nw w2 w3) => ringValid_any (sqL 4) v1 w3 (s1b.nw h) hl
  have cx2 := fun w3 (h : Nw w2 w3) => convex_any (sqL 4) v1 w3 (s1b.nw h) hl
  have cs := fun w3 (h : Nw w2 w3) => ringSame_any (sqL 4) (sqL 4) v2 v1 w3 (s2.nw h) (s1b.nw h)
  rw [aw8_area] at ca
  rw [aw8_in] at cx
  rw [aw8_on] at cy
  rw [aw8_out] at cz
  rw [aw8_valid] at cv
  rw [aw8_convex] at cx2
  simp only [decide_true] at cs
  have h0 : Nw w2 w2 := Kp.refl _ _
  have H2 := Lib.hid h2
  clear h2 s1b s2 hl
  go_wp2_with fail
  with_reducible refine (ca _ h0).mono ?_
  rintro e w3 ⟨rfl, k3⟩
  have h3 := (h0).tr k3
  go_wp2_with fail
  with_reducible refine (cx _ h3).mono ?_
  rintro e w4 ⟨rfl, k4⟩
  have h4 := (h3).tr k4
  go_wp2_with fail
  with_reducible refine (cy _ h4).mono ?_
  rintro e w5 ⟨rfl, k5⟩
  have h5 := (h4).tr k5
  go_wp2_with fail
  with_reducible refine (cz _ h5).mono ?_
  rintro e w6 ⟨rfl, k6⟩
  have h6 := (h5).tr k6
  go_wp2_with fail
  with_reducible refine (cv _ h6).mono ?_
  rintro e w7 ⟨rfl, k7⟩
  have h7 := (h6).tr k7
  go_wp2_with fail
  with_reducible refine (cx2 _ h7).mono ?_
  rintro e w8 ⟨rfl, k8⟩
  have h8 := (h7).tr k8
  go_wp2_with fail
  with_reducible refine (cs _ h8).mono ?_
  rintro e w9 ⟨rfl, k9⟩
  have h9 := (h8).tr k9
  go_wp2_with fail
  go_ret
  exact ⟨rfl, H2.out.tr h9⟩

end Go.Proofs.Ythiabmcfooobfaa.W

namespace Go.Proofs.Ythiabmcfooobfaa.W
open Go.RowKit Go.Proofs.Ythiabmcfooobfaa.V Go.Proofs.Ythiabmcfooobfaa.G


set_option maxRecDepth 100000 in
set_option maxHeartbeats 3200000 in
theorem few_any (l : List (Int × Int)) (v : Value) (w : World) (hv : SrcV w v l) : Calls Try.prog 75 #[v] w fun e w' => e = .returned (.bool (decide (l.length ≤ 60))) ∧ Nw w w' := by
  obtain ⟨A, c, rfl⟩ := hv.shape
  obtain ⟨n, hn⟩ : ∃ n, l.length = n := ⟨_, rfl⟩
  rw [hn]
  clear hv hn
  by_cases h : n ≤ 60
  · have h1 : ((n : Int) ≤ 60) := by omega
    rw [decide_eq_true h]
    go_enter Try.func75, Try.ntmps75
    go_wp2_with fail
    go_ret
    exact ⟨by simp, Kp.refl _ _⟩
  · have h1 : ¬ ((n : Int) ≤ 60) := by omega
    rw [decide_eq_false h]
    go_enter Try.func75, Try.ntmps75
    go_wp2_with fail
    go_ret
    exact ⟨by simp, Kp.refl _ _⟩
theorem within_8 {x y : Int} (h : withinV x y 8000 = false) : validP x y 1 = false := by
  rw [← Bool.not_eq_true] at h ⊢
  intro hc
  apply h
  unfold validP at hc
  rw [Bool.and_eq_true] at hc
  obtain ⟨-, ⟨h3, h4, h5, h6⟩, -⟩ := in_mid (m := 4000) (by omega) hc.1
  unfold withinV
  rw [show w64 (-8000) = -8000 from w64_id ⟨by omega, by omega⟩]
  simp
  omega

set_option maxRecDepth 100000 in
set_option maxHeartbeats 3200000 in
theorem rwhere8_any (l : List (Int × Int)) (v : Value) (x y : Int) (w : World) (hv : SrcV w v l) (hl : l.length ≤ 1099511627776) : Calls Try.prog 77 #[v, vV x y] w fun e w' => e = .returned (.int .i64 (whereR l x y 1)) ∧ Nw w w' := by
  have c0 := fun w1 => rwithin_any x y 8000 w1
  have c1 := fun w1 => rpointOf_any x y w1
  have c2 := fun w1 (h : Nw w w1) => rwherePoint_any l v x y 1 w1 (hv.nw h) hl
  have hb := Blk.new w 23 #[.int .i64 x, .int .i64 y]
  have h0 := nw_alloc w (.cells #[.int .i64 x, .int .i64 y] 23)
  clear hv
  obtain ⟨b, hbb⟩ : ∃ b, withinV x y 8000 = b := ⟨_, rfl⟩
  rw [hbb] at c0
  cases b
  · rw [show whereR l x y 1 = 0 by unfold whereR; rw [within_8 hbb, Bool.and_false]; rfl]
    clear hbb
    go_enter Try.func77, Try.ntmps77
    go_wp2_with fail
    with_reducible refine (c0 _).mono ?_
    rintro e w1 ⟨rfl, k1⟩
    go_wp2_with fail
    go_ret
    exact ⟨rfl, h0.tr k1⟩
  · clear hbb
    go_enter Try.func77, Try.ntmps77
    go_wp2_with fail
    with_reducible refine (c0 _).mono ?_
    rintro e w1 ⟨rfl, k1⟩
    obtain ⟨y0, y1, -, -⟩ := (hb.kp k1 id).two
    have h1 := h0.tr k1
    clear hb h0 k1 c0
    go_wp2_with fail
    with_reducible refine (c1 _).mono ?_
    rintro e w2 ⟨rfl, k2⟩
    go_wp2_with fail
    with_reducible refine (c2 _ (h1.tr k2)).mono ?_
    rintro e w3 ⟨rfl, k3⟩
    go_wp2_with fail
    go_ret
    exact ⟨rfl, (h1.tr k2).tr k3⟩

theorem onS_onP {a b : Pt} (ha : Lm a.1 a.2) (hb : Lm b.1 b.2) {x y : Int} (hp : Lm x y) : onS a.1 a.2 b.1 b.2 x y = onP (a, b) x y 1 := by
  have hv : validS a.1 a.2 b.1 b.2 = true := by unfold validS; rw [Bool.and_eq_true, within_lm, within_lm]; exact ⟨ha, hb⟩
  rw [on_boxS hv]
  unfold onP
  rw [Int.mul_one, Int.mul_one, Int.mul_one, Int.mul_one]
  congr 1
  rw [turn_lm ha hb hp]
  apply Bool.eq_iff_iff.2
  rw [beq_iff_eq, beq_iff_eq, sgn_zero_iff]
  show (b.1 - a.1) * (y - a.2) - (b.2 - a.2) * (x - a.1) = 0 ↔ (b.1 - a.1) * (y - a.2 * 1) - (b.2 - a.2) * (x - a.1 * 1) = 0
  rw [Int.mul_one, Int.mul_one]
theorem where_one {l : List Pt} {x y : Int} (hv : validR l = true) (hp : Lm x y) : (whereR l x y 1 == 1) = anyOn (edgesP l) x y 1 := by
  unfold whereR
  rw [hv, valid_int hp, Bool.and_self, if_pos rfl]
  cases anyOn (edgesP l) x y 1
  · rw [if_neg (by simp)]
    split <;> rfl
  · rfl

end Go.Proofs.Ythiabmcfooobfaa.W

namespace Go.Proofs.Ythiabmcfooobfaa.W
open Go.RowKit Go.Proofs.Ythiabmcfooobfaa.V Go.Proofs.Ythiabmcfooobfaa.G


set_option maxRecDepth 100000 in
set_option maxHeartbeats 12800000 in
theorem ringWhere_walk (l : List (Int × Int)) (v : Value) (x y px py pd : Int) (w : World) (hv : SrcV w v l) (hl : l.length ≤ 1099511627776) : Calls Try.prog 14 #[v, vV x y, pV px py pd] w fun e w' => e = .returned (.bool true) ∧ Nw w w' := by
  have hmix := mixed7
  obtain ⟨w0, hw0⟩ : ∃ w0, ((w.alloc (.cells #[.int .i64 x, .int .i64 y] 23)).alloc (.cells #[.int .i64 px, .int .i64 py, .int .i64 pd] 50)) = w0 := ⟨_, rfl⟩
  have HW0 := Lib.hid (show Nw w w0 by rw [← hw0]; exact (nw_alloc _ _).alloc _)
  have HB := Lib.hid (show ∀ w', Nw w0 w' → Blk w' w.heap.size 23 #[.int .i64 x, .int .i64 y] ∧ Blk w' (w.heap.size + 1) 50 #[.int .i64 px, .int .i64 py, .int .i64 pd] from fun w' h => by
    rw [← hw0] at h
    exact ⟨((Blk.new _ _ _).alloc _).kp h id, (Blk.new_at _ _ _ (by simp)).kp h id⟩)
  have cf := fun w1 (h : Nw w w1) => few_any l v w1 (hv.nw h)
  have cw := fun w1 (h : Nw w w1) => where_any l v x y w1 (hv.nw h) hl
  have cr := fun w1 (h : Nw w w1) => rwhere8_any l v x y w1 (hv.nw h) hl
  have cp := fun w1 (h : Nw w w1) => wherePoint_any l v px py pd w1 (hv.nw h) hl
  have cq := fun w1 (h : Nw w w1) => rwherePoint_any l v px py pd w1 (hv.nw h) hl
  have cz := fun w1 (h : Nw w w1) => wherePoint_any l v x y 1 w1 (hv.nw h) hl
  have cv := fun w1 (h : Nw w w1) => ringValid_any l v w1 (hv.nw h) hl
  have ci := fun w1 => rwithin_any x y 4000 w1
  have ce := fun w1 (h : Nw w w1) => edges_any l v w1 (hv.nw h) hl
  have co := fun w1 => rpointOf_any x y w1
  have hlen := hl
  clear hv
  obtain ⟨PV, hPV⟩ : ∃ s, w.heap.size = s := ⟨_, rfl⟩
  rw [hPV] at HB
  obtain ⟨PQ, hPQ⟩ : ∃ s, PV + 1 = s := ⟨_, rfl⟩
  rw [hPQ] at HB
  obtain ⟨b0, hb0⟩ : ∃ b, decide (l.length ≤ 60) = b := ⟨_, rfl⟩
  rw [hb0] at cf
  obtain ⟨u, hu⟩ : ∃ u, whereR l x y 1 = u := ⟨_, rfl⟩
  obtain ⟨t, ht⟩ : ∃ u, whereR l px py pd = u := ⟨_, rfl⟩
  rw [hu] at cw cr cz
  rw [ht] at cp cq
  have HU := Lib.hid hu
  have HL0 := Lib.hid hb0
  clear ht hu hb0
  go_enter Try.func14, Try.ntmps14
  go_wp2_with fail
  with_reducible refine (awake8_any _).mono ?_
  rintro e w1 ⟨rfl, k1⟩
  have n1 := HW0.out.tr k1
  clear hw0 hPV hPQ
  go_wp2_with fail
  with_reducible refine (cf _ n1).mono ?_
  rintro e w2 ⟨rfl, k2⟩
  have n2 := k1.tr k2
  clear k1 k2 n1
  cases b0
  · go_wp2_with fail
    go_ret
    exact ⟨rfl, HW0.out.tr n2⟩
  obtain ⟨y0, y1, -, -⟩ := (HB.out _ n2).1.two
  go_wp2_with fail
  with_reducible refine (cw _ (HW0.out.tr n2)).mono ?_
  rintro e w3 ⟨rfl, k3⟩
  have n3 := Lib.hid (n2.tr k3)
  clear k3 n2 y0 y1 cf cw
  have q0 := fun p : KeptW w3 => (HB.out p.wd (n3.out.tr p.since)).1.cell 0
  have q1 := fun p : KeptW w3 => (HB.out p.wd (n3.out.tr p.since)).1.cell 1
  have q2 := fun p : KeptW w3 => (HB.out p.wd (n3.out.tr p.since)).2.cell 0
  have q3 := fun p : KeptW w3 => (HB.out p.wd (n3.out.tr p.since)).2.cell 1
  have q4 := fun p : KeptW w3 => (HB.out p.wd (n3.out.tr p.since)).2.cell 2
  have d1 := fun p : KeptW w3 => cr p.wd (HW0.out.tr (n3.out.tr p.since))
  have d2 := fun p : KeptW w3 => cp p.wd (HW0.out.tr (n3.out.tr p.since))
  have d3 := fun p : KeptW w3 => cq p.wd (HW0.out.tr (n3.out.tr p.since))
  go_wp2_with fail
  refine wp_region_kept (Kp.refl _ _) (by assumption) (by kernel_rfl) ?_
  repeat (with_reducible refine wpQuiet_step (fun K hK => ?_); go_simp; first | ((with_reducible refine hK _ ?_); clear hK K) | (with_reducible apply Exists.intro; (with_reducible refine ⟨fun _ => ?_, hK _ ?_⟩); ((first | (go_at_call 77; with_reducible exact Calls.kept_of (d1 _)) | (go_at_call 78; with_reducible exact Calls.kept_of (d2 _)) | (go_at_call 79; with_reducible exact Calls.kept_of (d3 _)) | fail)); clear hK K) | (simp only [undef, reduceCtorEq, if_false]; (with_reducible refine hK _ ?_); clear hK K))
  with_reducible refine wpQuiet_nil ?_
  rintro _ ⟨p, rfl⟩
  have n4 := Lib.hid (n3.out.tr p.since)
  generalize p.wd = w4 at n4 ⊢
  clear q0 q1 q2 q3 q4 d1 d2 d3 cr cp cq n3
  obtain ⟨b1, hb1⟩ : ∃ b, validR l = b := ⟨_, rfl⟩
  obtain ⟨b2, hb2⟩ : ∃ b, withinV x y 4000 = b := ⟨_, rfl⟩
  rw [hb1] at cv
  rw [hb2] at ci
  cases b1
  · clear hb2
    go_wp2_with fail
    with_reducible refine (cv _ (HW0.out.tr n4.out)).mono ?_
    rintro e w5 ⟨rfl, k5⟩
    go_wp2_with fail
    go_ret
    exact ⟨rfl, (HW0.out.tr n4.out).tr k5⟩
  cases b2
  · go_wp2_with fail
    with_reducible refine (cv _ (HW0.out.tr n4.out)).mono ?_
    rintro e w5 ⟨rfl, k5⟩
    obtain ⟨y0, y1, -, -⟩ := (HB.out _ (n4.out.tr k5)).1.two
    go_wp2_with fail
    with_reducible refine (ci _).mono ?_
    rintro e w6 ⟨rfl, k6⟩
    go_wp2_with fail
    go_ret
    exact ⟨rfl, ((HW0.out.tr n4.out).tr k5).tr k6⟩
  have hlm := within_lm.1 hb2
  have HON := Lib.hid (show (u == 1) = anyOn (edgesP l) x y 1 by rw [← HU.out]; exact where_one hb1 hlm)
  have HLM := Lib.hid hlm
  have HOK := Lib.hid (valid_w hb1)
  obtain ⟨g3, g40⟩ := valid_len hb1
  have hel : (edgesP l).length = l.length := by rw [edges_len, if_neg (by omega)]
  have HEA := Lib.hid (show ∀ k, k < l.length → (edgesP l)[k]? = some (edgeP l k) from fun k hk => edges_at (by omega) hk)
  clear hb1 hb2 hlm
  go_wp2_with fail
  with_reducible refine (cv _ (HW0.out.tr n4.out)).mono ?_
  rintro e w5 ⟨rfl, k5⟩
  obtain ⟨y0, y1, -, -⟩ := (HB.out _ (n4.out.tr k5)).1.two
  go_wp2_with fail
  with_reducible refine (ci _).mono ?_
  rintro e w6 ⟨rfl, k6⟩
  have n6 := Lib.hid ((n4.out.tr k5).tr k6)
  clear k5 k6 y0 y1 cv ci
  go_wp2_with fail
  with_reducible refine (ce _ (HW0.out.tr n6.out)).mono ?_
  rintro e w7 ⟨v7, rfl, hs7, k7⟩
  have n7 := Lib.hid (n6.out.tr k7)
  obtain ⟨A4, c4, rfl⟩ := hs7.shape
  obtain ⟨n, hn⟩ : ∃ n, l.length = n := ⟨_, rfl⟩
  rw [hn] at hel hl g3 g40 HEA
  obtain ⟨g, o, rfl, hg, hcE⟩ := srcE_at hs7 (by rw [hel]; omega)
  rw [hel]
  have hmx : c4 ≤ 9223372036854775807 ∧ n ≤ c4 := by
    obtain ⟨_, A', c', e, h1, h2, _⟩ := hs7
    injection e with _ _ e3
    subst e3
    unfold maxLen at h2
    rw [hel] at h1
    omega
  have HCE := Lib.hid hcE
  have HN := Lib.hid hn
  obtain ⟨L, hL⟩ : ∃ L, edgesP l = L := ⟨_, rfl⟩
  rw [hL] at HCE HEA HON hel
  have HEL := Lib.hid hel
  clear hs7 hcE hn ce hL hel hg k7 hlen
  go_wp2_with fail
  go_loopw [8, 10] (fun s i wr => ∃ k : Nat, i = .int .i64 k ∧ k ≤ n ∧ s = .bool (anyOn (L.take k) x y 1) ∧ Nw w7 wr) (fun s i _ => n - (intOf i).toNat)
  case atStart => exact ⟨0, rfl, Nat.zero_le _, rfl, Kp.refl _ _⟩
  case round =>
    obtain ⟨k, rfl, hk, rfl, hnw⟩ := hrel
    have HK := Lib.hid hnw
    clear hnw
    by_cases hkn : k < n
    · have i0 : (0 : Int) ≤ (k : Int) := by omega
      have i1 : (k : Int) < (n : Int) := by omega
      obtain ⟨s4, hs4⟩ : ∃ s : Nat, k + 1 = s := ⟨_, rfl⟩
      have a4 : IntKind.i64.wrap ((k : Int) + 1) = (s4 : Int) := by rw [IntKind.wrap_i64]; omega
      have H4 := Lib.hid hs4
      obtain ⟨⟨⟨ax, ay⟩, ⟨bx, bz⟩⟩, he⟩ : ∃ e, edgeP l k = e := ⟨_, rfl⟩
      have hLk := HEA.out k hkn
      rw [he] at hLk
      have hok := edge_ok HOK.out (i := k) (by rw [HN.out]; exact hkn)
      rw [he] at hok
      have htk : anyOn (L.take (k + 1)) x y 1 = (anyOn (L.take k) x y 1 || onS ax ay bx bz x y) := by
        rw [List.take_add_one, hLk]
        show anyOn (L.take k ++ [((ax, ay), (bx, bz))]) x y 1 = _
        rw [anyOn_snoc, onS_onP (w_lm hok.1).2 (w_lm hok.2).2 HLM.out]
      have HTK := Lib.hid htk
      have yy := fun p : KeptW wr => HCE.out p.wd (HK.out.tr p.since) k _ hLk
      have q0 := fun p => (yy p).1
      have q1 := fun p => (yy p).2.1
      have q2 := fun p => (yy p).2.2.1
      have q3 := fun p => (yy p).2.2.2
      have q4 := fun p : KeptW wr => (HB.out p.wd (n7.out.tr (HK.out.tr p.since))).1.cell 0
      have q5 := fun p : KeptW wr => (HB.out p.wd (n7.out.tr (HK.out.tr p.since))).1.cell 1
      have con := fun w1 => ron_any ax ay bx bz x y w1
      obtain ⟨ob, hob⟩ : ∃ b, onS ax ay bx bz x y = b := ⟨_, rfl⟩
      obtain ⟨ac, hac⟩ : ∃ b, anyOn (L.take k) x y 1 = b := ⟨_, rfl⟩
      rw [hob] at con HTK
      rw [hac] at HTK ⊢
      clear hs4 he hLk hok htk yy hob hac
      go_wp2_with fail
      cases ac
      · skip
        refine wp_region_kept (Kp.refl _ _) (by assumption) (by kernel_rfl) ?_
        repeat (with_reducible refine wpQuiet_step (fun K hK => ?_); go_simp; first | ((with_reducible refine hK _ ?_); clear hK K) | (with_reducible apply Exists.intro; (with_reducible refine ⟨fun _ => ?_, hK _ ?_⟩); ((first | (go_at_call 63; with_reducible exact Calls.kept_of (con _)) | fail)); clear hK K) | (simp only [undef, reduceCtorEq, if_false]; (with_reducible refine hK _ ?_); clear hK K))
        with_reducible refine wpQuiet_nil ?_
        rintro _ ⟨p, rfl⟩
        go_wp2_with fail
        go_roundw
        case rel => exact ⟨k + 1, by rw [← H4.out], by omega, by rw [HTK.out]; rfl, HK.out.tr p.since⟩
        case measure => (have := H4.out; simp [intOf]; try omega)
      · skip
        refine wp_region_kept (Kp.refl _ _) (by assumption) (by kernel_rfl) ?_
        repeat (with_reducible refine wpQuiet_step (fun K hK => ?_); go_simp; first | ((with_reducible refine hK _ ?_); clear hK K) | (with_reducible apply Exists.intro; (with_reducible refine ⟨fun _ => ?_, hK _ ?_⟩); ((first | (go_at_call 63; with_reducible exact Calls.kept_of (con _)) | fail)); clear hK K) | (simp only [undef, reduceCtorEq, if_false]; (with_reducible refine hK _ ?_); clear hK K))
        with_reducible refine wpQuiet_nil ?_
        rintro _ ⟨p, rfl⟩
        go_wp2_with fail
        go_roundw
        case rel => exact ⟨k + 1, by rw [← H4.out], by omega, by rw [HTK.out]; rfl, HK.out.tr p.since⟩
        case measure => (have := H4.out; simp [intOf]; try omega)
    · obtain rfl : k = n := by omega
      have i5 : ¬ ((k : Int) < (k : Int)) := by omega
      have htl : L.take k = L := List.take_of_length_le (by rw [HEL.out]; exact Nat.le_refl _)
      rw [htl, ← HON.out]
      obtain ⟨n9, hn9⟩ : ∃ n, Nw w0 wr = n := ⟨_, rfl⟩
      have n8 := Lib.hid (n7.out.tr HK.out)
      obtain ⟨y0, y1, -, -⟩ := (HB.out _ n8.out).1.two
      clear hn9 htl
      obtain ⟨ub, hub⟩ : ∃ b, (u == 1) = b := ⟨_, rfl⟩
      rw [hub]
      have euu : (u == u) = true := by simp
      have ebb : (binOp .eql 4 (.bool ub) (.bool ub)).run Try.prog wr = .ok (.bool true) wr := by
        cases ub <;> rfl
      go_wp2_with fail
      with_reducible refine (co _).mono ?_
      rintro e w9 ⟨rfl, k9⟩
      go_wp2_with fail
      with_reducible refine (cz _ (HW0.out.tr (n8.out.tr k9))).mono ?_
      rintro e w10 ⟨rfl, k10⟩
      go_wp2_with fail
      go_ret
      exact ⟨rfl, (HW0.out.tr (n8.out.tr k9)).tr k10⟩

set_option maxRecDepth 100000 in
set_option maxHeartbeats 3200000 in
theorem ringWhere_any (l : List (Int × Int)) (v : Value) (x y px py pd : Int) (w : World) (hv : SrcV w v l) : Calls Try.prog 14 #[v, vV x y, pV px py pd] w fun e w' => e = .returned (.bool true) ∧ Nw w w' := by
  by_cases hl : l.length ≤ 1099511627776
  case pos => exact ringWhere_walk l v x y px py pd w hv hl
  case neg =>
    have cf := fun w1 (h : Nw w w1) => few_any l v w1 (hv.nw h)
    rw [decide_eq_false (by omega)] at cf
    clear hv hl
    go_enter Try.func14, Try.ntmps14
    go_wp2_with fail
    with_reducible refine (awake8_any _).mono ?_
    rintro e w1 ⟨rfl, k1⟩
    have n1 : Nw w w1 := Kp.tr ((nw_alloc _ _).alloc _) k1
    go_wp2_with fail
    with_reducible refine (cf _ n1).mono ?_
    rintro e w2 ⟨rfl, k2⟩
    go_wp2_with fail
    go_ret
    exact ⟨rfl, n1.tr k2⟩

end Go.Proofs.Ythiabmcfooobfaa.W

namespace Go.Proofs.Ythiabmcfooobfaa.W
open Go.ChangeShapes Go.WideShapes Go.ChangeAt Go.RowKit

theorem own : ownKnob Try.prog.godebug = none := by kernel_rfl
theorem laidOut : laidOutB Try.prog = true := by kernel_rfl

theorem args_below {H : Type} {enc : TypeId × Value → H} {W W' : World} (hb : Below W.heap.size W W') : ∀ (ts : List TypeId) (vs : List Value) (ds : List (DataW H)) (ps : List MemPlace),
    (∀ t ∈ ts, Try.prog.readableRec t = true ∧ t < Try.prog.types.size) → (∀ x ∈ ps, x.block < W.heap.size) →
    DataW.TrodAll enc Try.prog W 0 (fun _ => true) true ts vs ds ps → DataW.TrodAll enc Try.prog W' 0 (fun b => decide (b < W.heap.size)) true ts vs ds ps := by
  intro ts
  induction ts with
  | nil =>
    intro vs ds ps _ _ h
    obtain ⟨rfl, rfl, rfl⟩ := trodAll_nil h
    exact trodAll_mk0
  | cons t ts ih =>
    intro vs ds ps ht hlt h
    obtain ⟨v, vs', d, ds', p, q, rfl, rfl, rfl, h0, hr⟩ := trodAll_cons h
    refine trodAll_cons_mk (Below.trod laidOut (ht t (by simp)).1 (ht t (by simp)).2 h0 hb (fun x hx => hlt x (by simp [hx]))) (ih vs' ds' q (fun t' h' => ht t' (by simp [h'])) (fun x hx => hlt x (by simp [hx])) hr)

theorem law_post {H : Type} {enc : TypeId × Value → H} {f : Func} {s : ChangeSpec} {W W' : World} {args : Array Value} {ds gs : List (DataW H)} {before : List MemPlace}
    (hW : DataW.Whole enc Try.prog f.params.toList s.vars false W args.toList ds gs before) (hb : Below W.heap.size W W') (hv : s.vars = []) (hr : f.resultTypes = #[4])
    (ht : ∀ t ∈ f.params.toList, Try.prog.readableRec t = true ∧ t < Try.prog.types.size)
    (hs : gs = [] → (s.fn H (ds ++ gs)).results = [.lit (.bool true)] ∧ (s.fn H (ds ++ gs)).args = ds ∧ (s.fn H (ds ++ gs)).vars = []) :
    s.post enc Try.prog f false true false false W args (.bool true) W' := by
  have hlt := hW.lt
  have hW0 := hW
  obtain ⟨p, q, hA, hV, rfl, _, _⟩ := hW
  rw [hv] at hV
  obtain ⟨rfl, rfl⟩ := trodVars_none hV
  obtain ⟨h1, h2, h3⟩ := hs rfl
  refine ⟨ds, [], p ++ [], [], p, [], hW0, ?_, ?_, ?_, World.keptBut_mono (fun x hx => ?_) (hb.frame (· ∈ p ++ [])), fun h => by cases h⟩
  · rw [h1, hr]
    exact trodAll_cons_mk (shut_bool Try.underlying4 true) trodAll_mk0
  · rw [h2]
    exact args_below hb _ _ _ _ ht (fun x hx => hlt x (by simp [hx])) hA
  · rw [h3, hv]
    rfl
  · exact ⟨hx, .inr (.inl (by simpa using hx))⟩
end Go.Proofs.Ythiabmcfooobfaa.W

namespace Go.Proofs.Ythiabmcfooobfaa.W
open Go.ChangeShapes Go.WideShapes Go.ChangeAt Go.RowKit Go.Deep

theorem u64_of {x : Int} (h : (Lit.int .u64 x).wf = true) : 0 ≤ x ∧ x < 18446744073709551616 := by
  simp only [Lit.wf, Bool.and_eq_true, decide_eq_true_eq] at h
  have e1 : IntKind.u64.min = 0 := rfl
  have e2 : IntKind.u64.max = 18446744073709551615 := rfl
  exact ⟨by omega, by omega⟩
theorem u16_of {x : Int} (h : (Lit.int .u16 x).wf = true) : 0 ≤ x ∧ x < 65536 := by
  simp only [Lit.wf, Bool.and_eq_true, decide_eq_true_eq] at h
  have e1 : IntKind.u16.min = 0 := rfl
  have e2 : IntKind.u16.max = 65535 := rfl
  exact ⟨by omega, by omega⟩
theorem u8_of {x : Int} (h : (Lit.int .u8 x).wf = true) : 0 ≤ x ∧ x < 256 := by
  simp only [Lit.wf, Bool.and_eq_true, decide_eq_true_eq] at h
  have e1 : IntKind.u8.min = 0 := rfl
  have e2 : IntKind.u8.max = 255 := rfl
  exact ⟨by omega, by omega⟩
theorem i64_of {x : Int} (h : (Lit.int .i64 x).wf = true) : -9223372036854775808 ≤ x ∧ x ≤ 9223372036854775807 := by
  simp only [Lit.wf, Bool.and_eq_true, decide_eq_true_eq] at h
  have e1 : IntKind.i64.min = -9223372036854775808 := rfl
  have e2 : IntKind.i64.max = 9223372036854775807 := rfl
  exact ⟨by omega, by omega⟩

section
variable {H : Type} {enc : TypeId × Value → H} {W : World} {base : Nat} {v : Value} {d : DataW H} {p : List MemPlace}

set_option maxRecDepth 100000 in
theorem openRows {α : Type} [Inhabited α] {T E size : Nat} {f : α → List Value} {P : α → Prop} (hu : Try.prog.underlying T = some (.slice E)) (hC : Try.prog.cellsOf E = size) (hs0 : 0 < size) (hf : ∀ x, (f x).length = size)
    (hopen : ∀ n cs y, DataW.trod enc Try.prog W 0 (fun _ => true) true n E cs = some y → ∃ x, cs = f x ∧ P x)
    (hv : Value.okWide Try.prog W .any base T v) (h : DataW.Trod enc Try.prog W 0 (fun _ => true) true T v d p) :
    ∃ l : List α, Src W size v l.length (flat f l) ∧ (∀ x ∈ l, P x) ∧ (l = [] ∨ ∃ es sp, d = .slice es sp ∧ es.length = l.length) := by
  obtain ⟨a0, len0, cap0, rfl⟩ := okWide_slice hu hv
  obtain ⟨fuel, hf0⟩ := h
  rcases open_slice hu hf0 with ⟨hcs, hx⟩ | ⟨a, len, cap, m, n, D, Pl, hcs, hb, hl, hm, hmm, hx, hi⟩
  · simp [Value.cells] at hcs
    obtain ⟨rfl, rfl, rfl⟩ := hcs
    exact ⟨[], Src.nil W size, fun x hx => absurd hx List.not_mem_nil, .inl rfl⟩
  · simp [Value.cells] at hcs
    obtain ⟨rfl, rfl, rfl⟩ := hcs
    simp only [Prod.mk.injEq] at hx
    obtain ⟨rfl, rfl⟩ := hx
    simp only [if_true] at hmm
    have hel : ∀ i, i < len0 → ∃ x, P x ∧ ∀ j u, (f x)[j]? = some u → W.cell? (a.add (i * size + j)) = some u := fun i hlt => by
      obtain ⟨cs', hc, ht⟩ := hi i (by omega)
      obtain ⟨x, rfl, hp⟩ := hopen _ _ _ ht
      rw [hC] at hc
      obtain ⟨_, hcl, hat⟩ := World.cells?_some hc
      refine ⟨x, hp, fun j u hj => ?_⟩
      have hjl : j < size := by
        have := (List.getElem?_eq_some_iff.1 hj).1
        rw [hf] at this
        exact this
      rw [← Go.Deep.add_add, hat j hjl]
      exact hj
    let g : Nat → α := fun i => if h : i < len0 then Classical.choose (hel i h) else default
    have hg : ∀ i, i < len0 → P (g i) ∧ ∀ j u, (f (g i))[j]? = some u → W.cell? (a.add (i * size + j)) = some u := fun i hlt => by
      have : g i = Classical.choose (hel i hlt) := dif_pos hlt
      rw [this]
      exact Classical.choose_spec (hel i hlt)
    have hlen : ((List.range len0).map g).length = len0 := by simp
    refine ⟨(List.range len0).map g, ⟨?_, some a, cap0, by rw [hlen], by rw [hlen]; exact hl, hm, fun hn => ?_⟩, fun x hx => ?_, .inr ⟨_, _, rfl, by simp⟩⟩
    · rw [flat_length hf]
    · rw [hlen] at hn
      have hat : ∀ i j u, i < len0 → (f (g i))[j]? = some u → W.cell? (a.add (i * size + j)) = some u := fun i j u hlt hj => (hg i hlt).2 j u hj
      have hne : ∃ u, (f (g 0))[0]? = some u := ⟨_, List.getElem?_eq_getElem (by rw [hf]; exact hs0)⟩
      obtain ⟨u0, hu0⟩ := hne
      have h0 := hat 0 0 u0 hn hu0
      obtain ⟨gb, o, sp⟩ := a
      have hsp : sp = none := by simpa [Addr.add] using World.cell?_spot h0
      subst hsp
      have hbl : gb < W.heap.size := by
        have := World.block_lt_of_cell? W _ h0
        rwa [block_add] at this
      refine ⟨gb, o, rfl, hbl, fun j u hj => ?_⟩
      have hjl := (List.getElem?_eq_some_iff.1 hj).1
      rw [flat_length hf, hlen] at hjl
      have hq : j / size < len0 := Nat.div_lt_of_lt_mul (by rw [Nat.mul_comm]; exact hjl)
      have hjm := Nat.div_add_mod j size
      have hr : j % size < size := Nat.mod_lt _ hs0
      have hx : ((List.range len0).map g)[j / size]? = some (g (j / size)) := by rw [List.getElem?_map, List.getElem?_range hq]; rfl
      have ej : j = j / size * size + j % size := by rw [Nat.mul_comm]; exact hjm.symm
      rw [ej, flat_at hf (j % size) hx hr] at hj
      have := hat _ _ _ hq hj
      rw [← ej] at this
      rw [addr_lit _ j rfl] at this
      exact this
    · obtain ⟨i, hi', rfl⟩ := List.mem_map.1 hx
      exact (hg i (List.mem_range.1 hi')).1
end

theorem sizedLen {H : Type} {ts : List TypeId} {ds : List (DataW H)} {j : Nat} {t e : TypeId} {d : DataW H} {n b : Nat} (h : (DataW.weightsEach Try.prog ts ds).all (· ≤ reachBytes) = true) (ht : ts[j]? = some t) (hd : ds[j]? = some d) (hu : Try.prog.underlying t = some (.slice e))
    (hb : Try.prog.bytesOf e = b) (hb1 : 1 ≤ b) (hs : n = 0 ∨ ∃ es sp, d = .slice es sp ∧ es.length = n) : n ≤ 140737488355328 := by
  rcases hs with h0 | ⟨es, sp, rfl, rfl⟩
  · omega
  · have := sized_slice h ht hd hu
    rw [hb] at this
    simp only [reachBytes] at this
    have h2 : es.length ≤ (es.length + sp.length) * b := Nat.le_trans (Nat.le_add_right _ _) (Nat.le_mul_of_pos_right _ hb1)
    omega
end Go.Proofs.Ythiabmcfooobfaa.W

namespace Go.Proofs.Ythiabmcfooobfaa.W
open Go.ChangeShapes Go.WideShapes Go.ChangeAt Go.RowKit Go.Joins Go.Deep Go.Proofs.Ythiabmcfooobfaa.V

set_option maxRecDepth 100000
section
variable {H : Type} {enc : TypeId × Value → H} {W : World} {base : Nat} {v : Value} {d : DataW H} {p : List MemPlace}
theorem cellsOfInt : Try.prog.cellsOf 3 = 1 := by kernel_rfl
theorem cellsOfVec : Try.prog.cellsOf 23 = 2 := by kernel_rfl
theorem cellsOfBox : Try.prog.cellsOf 38 = 4 := by kernel_rfl

theorem trod_vec {n : Nat} {cs : List Value} {y : DataW H × List MemPlace} (h : DataW.trod enc Try.prog W 0 (fun _ => true) true n 23 cs = some y) : ∃ x : Int × Int, cs = vC x := by
  obtain ⟨y0, y1, m, _, hl, h0, h1⟩ := trod_struct2 Try.underlying23 h
  rw [cellsOfVec] at hl
  match cs, hl with
  | [a, b], _ =>
    have h0 : DataW.trod enc Try.prog W 0 (fun _ => true) true m 3 [a] = some y0 := h0
    have h1 : DataW.trod enc Try.prog W 0 (fun _ => true) true m 3 [b] = some y1 := h1
    obtain ⟨x0, e0, _, _⟩ := DataW.trod_int Try.underlying3 h0
    obtain ⟨x1, e1, _, _⟩ := DataW.trod_int Try.underlying3 h1
    simp at e0 e1
    subst e0 e1
    exact ⟨(x0, x1), rfl⟩
theorem okWide_struct {P : Program} {r : Reach} {fs : Array Field} {t : TypeId} {v : Value} (ht : P.underlying t = some (.struct fs)) (h : Value.okWide P W r base t v) : ∃ cs, v = .agg cs ∧ cs.size = P.cellsOf t := by
  simp only [Value.okWide, ht] at h
  obtain ⟨cs, h1, h2, _⟩ := h
  exact ⟨cs, h1, h2⟩
theorem okWide_arr {P : Program} {r : Reach} {n : Nat} {e t : TypeId} {v : Value} (ht : P.underlying t = some (.array n e)) (h : Value.okWide P W r base t v) : ∃ cs, v = .agg cs ∧ cs.size = P.cellsOf t := by
  simp only [Value.okWide, ht] at h
  obtain ⟨cs, h1, h2, _⟩ := h
  exact ⟨cs, h1, h2⟩
theorem open_vec (hv : Value.okWide Try.prog W .any base 23 v) (h : DataW.Trod enc Try.prog W 0 (fun _ => true) true 23 v d p) :
    ∃ n d : Int, v = vV n d := by
  obtain ⟨cs, rfl, hs⟩ := okWide_struct Try.underlying23 hv
  obtain ⟨fuel, hf⟩ := h
  obtain ⟨x, hx⟩ := trod_vec hf
  obtain ⟨l⟩ := cs
  exact ⟨x.1, x.2, by simp [Value.cells] at hx; rw [hx]⟩
theorem open_box (hv : Value.okWide Try.prog W .any base 38 v) (h : DataW.Trod enc Try.prog W 0 (fun _ => true) true 38 v d p) :
    ∃ a b c d : Int, v = bV a b c d := by
  obtain ⟨cs, rfl, hs⟩ := okWide_struct Try.underlying38 hv
  obtain ⟨fuel, hf⟩ := h
  obtain ⟨y0, y1, m, _, hl, h0, h1⟩ := trod_struct2 Try.underlying38 hf
  obtain ⟨l⟩ := cs
  rw [cellsOfBox] at hl
  match l, hl with
  | [a, b, c, e], _ =>
    have h0 : DataW.trod enc Try.prog W 0 (fun _ => true) true m 23 [a, b] = some y0 := h0
    have h1 : DataW.trod enc Try.prog W 0 (fun _ => true) true m 23 [c, e] = some y1 := h1
    obtain ⟨x0, e0⟩ := trod_vec h0
    obtain ⟨x1, e1⟩ := trod_vec h1
    simp at e0 e1
    obtain ⟨rfl, rfl⟩ := e0
    obtain ⟨rfl, rfl⟩ := e1
    exact ⟨_, _, _, _, rfl⟩
theorem open_arr3 (hv : Value.okWide Try.prog W .any base 31 v) (h : DataW.Trod enc Try.prog W 0 (fun _ => true) true 31 v d p) :
    ∃ a b c d e f : Int, v = .agg #[.int .i64 a, .int .i64 b, .int .i64 c, .int .i64 d, .int .i64 e, .int .i64 f] := by
  obtain ⟨cs, rfl, hs⟩ := okWide_arr Try.underlying31 hv
  obtain ⟨fuel, hf⟩ := h
  obtain ⟨xs, m, _, _, _, hl, hi⟩ := DataW.trod_array Try.underlying31 hf
  obtain ⟨l⟩ := cs
  have hs : l.length = 6 := hs.trans (show Try.prog.cellsOf 31 = 6 by kernel_rfl)
  match l, hs with
  | [a0, a1, a2, a3, a4, a5], _ =>
    have hg : ∀ i, i < 3 → ∃ y, DataW.trod enc Try.prog W 0 (fun _ => true) true m 23 (([a0, a1, a2, a3, a4, a5].drop (i * 2)).take 2) = some y := fun i hi' => by
      have h := hi i hi'
      rw [cellsOfVec, List.getElem?_eq_getElem (by omega)] at h
      exact ⟨_, h⟩
    obtain ⟨_, g0⟩ := hg 0 (by omega)
    obtain ⟨_, g1⟩ := hg 1 (by omega)
    obtain ⟨_, g2⟩ := hg 2 (by omega)
    obtain ⟨x0, e0⟩ := trod_vec g0
    obtain ⟨x1, e1⟩ := trod_vec g1
    obtain ⟨x2, e2⟩ := trod_vec g2
    simp at e0 e1 e2
    obtain ⟨rfl, rfl⟩ := e0
    obtain ⟨rfl, rfl⟩ := e1
    obtain ⟨rfl, rfl⟩ := e2
    exact ⟨_, _, _, _, _, _, rfl⟩
theorem open_arr4 (hv : Value.okWide Try.prog W .any base 133 v) (h : DataW.Trod enc Try.prog W 0 (fun _ => true) true 133 v d p) :
    ∃ a b c d e f g h : Int, v = .agg #[.int .i64 a, .int .i64 b, .int .i64 c, .int .i64 d, .int .i64 e, .int .i64 f, .int .i64 g, .int .i64 h] := by
  obtain ⟨cs, rfl, hs⟩ := okWide_arr Try.underlying133 hv
  obtain ⟨fuel, hf⟩ := h
  obtain ⟨xs, m, _, _, _, hl, hi⟩ := DataW.trod_array Try.underlying133 hf
  obtain ⟨l⟩ := cs
  have hs : l.length = 8 := hs.trans (show Try.prog.cellsOf 133 = 8 by kernel_rfl)
  match l, hs with
  | [a0, a1, a2, a3, a4, a5, a6, a7], _ =>
    have hg : ∀ i, i < 4 → ∃ y, DataW.trod enc Try.prog W 0 (fun _ => true) true m 23 (([a0, a1, a2, a3, a4, a5, a6, a7].drop (i * 2)).take 2) = some y := fun i hi' => by
      have h := hi i hi'
      rw [cellsOfVec, List.getElem?_eq_getElem (by omega)] at h
      exact ⟨_, h⟩
    obtain ⟨_, g0⟩ := hg 0 (by omega)
    obtain ⟨_, g1⟩ := hg 1 (by omega)
    obtain ⟨_, g2⟩ := hg 2 (by omega)
    obtain ⟨_, g3⟩ := hg 3 (by omega)
    obtain ⟨x0, e0⟩ := trod_vec g0
    obtain ⟨x1, e1⟩ := trod_vec g1
    obtain ⟨x2, e2⟩ := trod_vec g2
    obtain ⟨x3, e3⟩ := trod_vec g3
    simp at e0 e1 e2 e3
    obtain ⟨rfl, rfl⟩ := e0
    obtain ⟨rfl, rfl⟩ := e1
    obtain ⟨rfl, rfl⟩ := e2
    obtain ⟨rfl, rfl⟩ := e3
    exact ⟨_, _, _, _, _, _, _, _, rfl⟩
theorem open_vecs (hv : Value.okWide Try.prog W .any base 36 v) (h : DataW.Trod enc Try.prog W 0 (fun _ => true) true 36 v d p) :
    ∃ l : List (Int × Int), SrcV W v l ∧ (l = [] ∨ ∃ es sp, d = .slice es sp ∧ es.length = l.length) := by
  obtain ⟨l, h1, _, h2⟩ := openRows (P := fun _ => True) Try.underlying36 cellsOfVec (by omega) (f := vC) (fun _ => rfl) (fun n cs y h => by
    obtain ⟨x, hx⟩ := trod_vec h
    exact ⟨x, hx, trivial⟩) hv h
  exact ⟨l, h1, h2⟩
end
end Go.Proofs.Ythiabmcfooobfaa.W

namespace Go.Proofs.Ythiabmcfooobfaa.W
open Go.ChangeShapes Go.WideShapes Go.ChangeAt Go.RowKit Go.Joins Go.Deep Go.Proofs.Ythiabmcfooobfaa.V

set_option maxRecDepth 100000
section
variable {H : Type} {enc : TypeId × Value → H} {W : World} {base : Nat} {v : Value} {d : DataW H} {p : List MemPlace}
theorem trod_vec64 {n : Nat} {cs : List Value} {y : DataW H × List MemPlace} (h : DataW.trod enc Try.prog W 0 (fun _ => true) true n 23 cs = some y) : ∃ x : Int × Int, cs = vC x ∧ I64 x.1 ∧ I64 x.2 := by
  obtain ⟨y0, y1, m, _, hl, h0, h1⟩ := trod_struct2 Try.underlying23 h
  rw [cellsOfVec] at hl
  match cs, hl with
  | [a, b], _ =>
    have h0 : DataW.trod enc Try.prog W 0 (fun _ => true) true m 3 [a] = some y0 := h0
    have h1 : DataW.trod enc Try.prog W 0 (fun _ => true) true m 3 [b] = some y1 := h1
    obtain ⟨x0, e0, _, w0⟩ := DataW.trod_int Try.underlying3 h0
    obtain ⟨x1, e1, _, w1⟩ := DataW.trod_int Try.underlying3 h1
    simp at e0 e1
    subst e0 e1
    exact ⟨(x0, x1), rfl, i64_of w0, i64_of w1⟩
theorem open_vec64 (hv : Value.okWide Try.prog W .any base 23 v) (h : DataW.Trod enc Try.prog W 0 (fun _ => true) true 23 v d p) :
    ∃ n d : Int, v = vV n d ∧ I64 n ∧ I64 d := by
  obtain ⟨cs, rfl, hs⟩ := okWide_struct Try.underlying23 hv
  obtain ⟨fuel, hf⟩ := h
  obtain ⟨x, hx, h1, h2⟩ := trod_vec64 hf
  obtain ⟨l⟩ := cs
  exact ⟨x.1, x.2, by simp [Value.cells] at hx; rw [hx], h1, h2⟩
theorem open_vecs64 (hv : Value.okWide Try.prog W .any base 36 v) (h : DataW.Trod enc Try.prog W 0 (fun _ => true) true 36 v d p) :
    ∃ l : List (Int × Int), SrcV W v l ∧ (∀ x ∈ l, I64 x.1 ∧ I64 x.2) ∧ (l = [] ∨ ∃ es sp, d = .slice es sp ∧ es.length = l.length) :=
  openRows (P := fun x => I64 x.1 ∧ I64 x.2) Try.underlying36 cellsOfVec (by omega) (f := vC) (fun _ => rfl) (fun n cs y h => trod_vec64 h) hv h
theorem bytesOfVec : Try.prog.bytesOf 23 = 16 := by kernel_rfl
end
end Go.Proofs.Ythiabmcfooobfaa.W

namespace Go.Proofs.Ythiabmcfooobfaa.W
open Go.ChangeShapes Go.WideShapes Go.ChangeAt Go.RowKit Go.Joins Go.Deep Go.Proofs.Ythiabmcfooobfaa.V

set_option maxRecDepth 100000
section
variable {H : Type} {enc : TypeId × Value → H} {W : World} {base : Nat} {v : Value} {d : DataW H} {p : List MemPlace}
theorem open_ring64 (hv : Value.okWide Try.prog W .any base 74 v) (h : DataW.Trod enc Try.prog W 0 (fun _ => true) true 74 v d p) :
    ∃ l : List (Int × Int), SrcV W v l ∧ (∀ x ∈ l, I64 x.1 ∧ I64 x.2) ∧ (l = [] ∨ ∃ es sp, d = .slice es sp ∧ es.length = l.length) :=
  openRows (P := fun x => I64 x.1 ∧ I64 x.2) Try.underlying74 cellsOfVec (by omega) (f := vC) (fun _ => rfl) (fun n cs y h => trod_vec64 h) hv h
end
end Go.Proofs.Ythiabmcfooobfaa.W

namespace Go.Proofs.Ythiabmcfooobfaa.W
open Go.ChangeShapes Go.WideShapes Go.ChangeAt Go.RowKit Go.Joins Go.Deep Go.Proofs.Ythiabmcfooobfaa.V

set_option maxRecDepth 100000
section
variable {H : Type} {enc : TypeId × Value → H} {W : World} {base : Nat} {v : Value} {d : DataW H} {p : List MemPlace}
theorem open_seg (hv : Value.okWide Try.prog W .any base 48 v) (h : DataW.Trod enc Try.prog W 0 (fun _ => true) true 48 v d p) :
    ∃ a b c d : Int, v = .agg #[.int .i64 a, .int .i64 b, .int .i64 c, .int .i64 d] := by
  obtain ⟨cs, rfl, hs⟩ := okWide_struct Try.underlying48 hv
  obtain ⟨fuel, hf⟩ := h
  obtain ⟨y0, y1, m, _, hl, h0, h1⟩ := trod_struct2 Try.underlying48 hf
  obtain ⟨l⟩ := cs
  have hl : l.length = 4 := hl.trans (show Try.prog.cellsOf 48 = 4 by kernel_rfl)
  match l, hl with
  | [a, b, c, e], _ =>
    have h0 : DataW.trod enc Try.prog W 0 (fun _ => true) true m 23 [a, b] = some y0 := h0
    have h1 : DataW.trod enc Try.prog W 0 (fun _ => true) true m 23 [c, e] = some y1 := h1
    obtain ⟨x0, e0⟩ := trod_vec h0
    obtain ⟨x1, e1⟩ := trod_vec h1
    simp at e0 e1
    obtain ⟨rfl, rfl⟩ := e0
    obtain ⟨rfl, rfl⟩ := e1
    exact ⟨_, _, _, _, rfl⟩
theorem open_pt (hv : Value.okWide Try.prog W .any base 50 v) (h : DataW.Trod enc Try.prog W 0 (fun _ => true) true 50 v d p) :
    ∃ a b c : Int, v = .agg #[.int .i64 a, .int .i64 b, .int .i64 c] := by
  obtain ⟨cs, rfl, hs⟩ := okWide_struct Try.underlying50 hv
  obtain ⟨fuel, hf⟩ := h
  obtain ⟨y0, y1, y2, m, _, hl, h0, h1, h2⟩ := trod_struct3 Try.underlying50 hf
  obtain ⟨l⟩ := cs
  have hl : l.length = 3 := hl.trans (show Try.prog.cellsOf 50 = 3 by kernel_rfl)
  match l, hl with
  | [a, b, c], _ =>
    have h0 : DataW.trod enc Try.prog W 0 (fun _ => true) true m 3 [a] = some y0 := h0
    have h1 : DataW.trod enc Try.prog W 0 (fun _ => true) true m 3 [b] = some y1 := h1
    have h2 : DataW.trod enc Try.prog W 0 (fun _ => true) true m 3 [c] = some y2 := h2
    obtain ⟨x0, e0, _, _⟩ := DataW.trod_int Try.underlying3 h0
    obtain ⟨x1, e1, _, _⟩ := DataW.trod_int Try.underlying3 h1
    obtain ⟨x2, e2, _, _⟩ := DataW.trod_int Try.underlying3 h2
    simp at e0 e1 e2
    subst e0 e1 e2
    exact ⟨_, _, _, rfl⟩
end
end Go.Proofs.Ythiabmcfooobfaa.W
