/-
  arc: Circle of the program and of the reference: what they return, by what Flatten returns. Conditions: the coordinates of the center are ints.
  The reference's Same of two slices that read as one list: it returns true. No condition.
  arc: the document's examples hold: awake returns true. No condition.
  arc: the laws ArcFlatten, ArcCircle and ArcRoot: each returns true. No condition but that the arguments are ints.
  The last step of each statement: where the call returns true and writes nothing that was there, the row's own post holds. Condition: the arguments' types are readable.
  The arguments of a statement: a slice whose elements are read reads as a list. No condition.
-/
import Derived.Test.YtlogihcmmoldkaaK12
import Derived.Test.YtlogihcmmoldkaaK18
import Derived.Test.YtlogihcmmoldkaaK32
import Derived.Test.YtlogihcmmoldkaaK37
import Derived.Test.YtlogihcmmoldkaaK08
import Derived.Test.YtlogihcmmoldkaaRows
import Derived.WalkKit
import Derived.ProofKit
import Derived.SizedLaws
import Derived.OpenShut
import Derived.Lib.SmallJoins
import Derived.Test.YtlogihcmmoldkaaK03
import Derived.Deep.Slices
namespace Go.Proofs.Ytlogihcmmoldkaa.W
open Go.RowKit Go.Proofs.Ytlogihcmmoldkaa.V Go.Proofs.Ytlogihcmmoldkaa.A

def FlatR (f : FuncId) (a t : Value) (L : List (Int × Int)) (ec : Int) : Prop := ∀ w1 : World, Calls Try.prog f #[a, t] w1 fun e w' => ∃ v, e = .returned (.tuple #[v, .int .i64 ec]) ∧ SrcV w' v L ∧ Nw w1 w'

set_option maxRecDepth 100000 in
set_option maxHeartbeats 3200000 in
theorem circ_bad (cx cy r t : Int) (hr : r ≤ 0) (w : World) : Calls Try.prog 17 #[vV cx cy, .int .i64 r, .int .i64 t] w fun e w' => e = .returned (.tuple #[.slice none 0 0, .int .i64 1]) ∧ Nw w w' := by
  have e1 : decide (r ≤ 0) = true := decide_eq_true hr
  clear hr
  go_enter Try.func17, Try.ntmps17
  go_wp2_with fail
  go_ret2
  exact ⟨rfl, by repeat (first | exact Kp.refl _ _ | refine Kp.drew ?_ | refine Kp.alloc ?_ _)⟩

set_option maxRecDepth 100000 in
set_option maxHeartbeats 6400000 in
theorem circ_err (cx cy r t : Int) (hcy : I64 cy) (hr : 0 < r) {L : List (Int × Int)} {ec : Int} (cf : FlatR 12 (arV (w64 (cx + r)) cy (w64 (cx + r)) cy cx cy false) (.int .i64 t) L ec) (hec : ec ≠ 0) (w : World) : Calls Try.prog 17 #[vV cx cy, .int .i64 r, .int .i64 t] w fun e w' => e = .returned (.tuple #[.slice none 0 0, .int .i64 ec]) ∧ Nw w w' := by
  unfold FlatR at cf
  have e0 : (ec == 0) = false := by simp [hec]
  have e9 : (ec != 0) = true := by simp [hec]
  have e1 : decide (r ≤ 0) = false := decide_eq_false (by omega)
  have ca := fun w1 => add_any cx cy r 0 w1
  rw [show w64 (cy + 0) = cy by rw [Int.add_zero]; exact w64_id hcy] at ca
  obtain ⟨W0, hW0⟩ : ∃ W, (w.alloc (.cells #[.int .i64 cx, .int .i64 cy] 23)) = W := ⟨_, rfl⟩
  have HW := Lib.hid (show Nw w W0 by rw [← hW0]; exact nw_alloc _ _)
  have HB0 := Lib.hid (show Blk W0 w.heap.size 23 #[.int .i64 cx, .int .i64 cy] by rw [← hW0]; exact Blk.new _ _ _)
  have m0 := HB0.out.cell 0
  have m1 := HB0.out.cell 1
  generalize hX : w64 (cx + r) = X at *
  go_enter Try.func17, Try.ntmps17
  go_upto_region 1 with fail
  try rw [hW0]
  clear hW0
  go_upto_region 4 with (first | (go_at_call 29; ((with_reducible refine (Calls.kept_first (ca _)).mono ?_); rintro e _ ⟨rfl, p, rfl⟩)) | fail)
  have HN1 := Lib.hid p.since
  generalize p.wd = wa at HN1 ⊢
  generalize hwm : World.alloc _ _ = wm
  have HNM := Lib.hid (show Nw W0 wm by rw [← hwm]; exact HN1.out.tr (nw_alloc _ _))
  obtain ⟨gm, hgm⟩ : ∃ x, wa.heap.size = x := ⟨_, rfl⟩
  have HM := Lib.hid (show Blk wm gm 23 #[.int .i64 X, .int .i64 cy] by rw [← hwm, ← hgm]; exact Blk.new _ _ _)
  try rw [hgm]
  clear hwm hgm m0 m1
  have z0 := (HB0.out.nwA HNM.out).cell 0
  have z1 := (HB0.out.nwA HNM.out).cell 1
  have z2 := HM.out.cell 0
  have z3 := HM.out.cell 1
  go_upto_region 5 with (first | (go_at_call 12; refine (cf _).mono ?_; rintro e w5 ⟨v5, rfl, hs5, hk5⟩; have HS5 := Lib.hid hs5; have HK5 := Lib.hid (HW.out.tr (HNM.out.tr hk5)); (obtain ⟨A5, c5, rfl⟩ := hs5.shape); clear hs5 hk5) | fail)
  clear z0 z1 z2 z3 cf
  go_wp2_with fail
  go_ret2
  exact ⟨rfl, HK5.out⟩

set_option maxRecDepth 100000 in
set_option maxHeartbeats 6400000 in
theorem circ_ok (cx cy r t : Int) (hcy : I64 cy) (hr : 0 < r) {L : List (Int × Int)} (cf : FlatR 12 (arV (w64 (cx + r)) cy (w64 (cx + r)) cy cx cy false) (.int .i64 t) L 0) (hL : L.length ≤ 1099511627776) (w : World) : Calls Try.prog 17 #[vV cx cy, .int .i64 r, .int .i64 t] w fun e w' => ∃ v', e = .returned (.tuple #[v', .int .i64 (G.cleanR L).2]) ∧ SrcV w' v' (G.cleanR L).1 ∧ Nw w w' := by
  unfold FlatR at cf
  have e1 : decide (r ≤ 0) = false := decide_eq_false (by omega)
  have ca := fun w1 => add_any cx cy r 0 w1
  rw [show w64 (cy + 0) = cy by rw [Int.add_zero]; exact w64_id hcy] at ca
  obtain ⟨W0, hW0⟩ : ∃ W, (w.alloc (.cells #[.int .i64 cx, .int .i64 cy] 23)) = W := ⟨_, rfl⟩
  have HW := Lib.hid (show Nw w W0 by rw [← hW0]; exact nw_alloc _ _)
  have HB0 := Lib.hid (show Blk W0 w.heap.size 23 #[.int .i64 cx, .int .i64 cy] by rw [← hW0]; exact Blk.new _ _ _)
  have m0 := HB0.out.cell 0
  have m1 := HB0.out.cell 1
  have HLL := Lib.hid hL
  generalize hX : w64 (cx + r) = X at *
  go_enter Try.func17, Try.ntmps17
  go_upto_region 1 with fail
  try rw [hW0]
  clear hW0
  go_upto_region 4 with (first | (go_at_call 29; ((with_reducible refine (Calls.kept_first (ca _)).mono ?_); rintro e _ ⟨rfl, p, rfl⟩)) | fail)
  have HN1 := Lib.hid p.since
  generalize p.wd = wa at HN1 ⊢
  generalize hwm : World.alloc _ _ = wm
  have HNM := Lib.hid (show Nw W0 wm by rw [← hwm]; exact HN1.out.tr (nw_alloc _ _))
  obtain ⟨gm, hgm⟩ : ∃ x, wa.heap.size = x := ⟨_, rfl⟩
  have HM := Lib.hid (show Blk wm gm 23 #[.int .i64 X, .int .i64 cy] by rw [← hwm, ← hgm]; exact Blk.new _ _ _)
  try rw [hgm]
  clear hwm hgm m0 m1
  have z0 := (HB0.out.nwA HNM.out).cell 0
  have z1 := (HB0.out.nwA HNM.out).cell 1
  have z2 := HM.out.cell 0
  have z3 := HM.out.cell 1
  go_upto_region 5 with (first | (go_at_call 12; refine (cf _).mono ?_; rintro e w5 ⟨v5, rfl, hs5, hk5⟩; have HS5 := Lib.hid hs5; have HK5 := Lib.hid (HW.out.tr (HNM.out.tr hk5)); (obtain ⟨A5, c5, rfl⟩ := hs5.shape); clear hs5 hk5) | fail)
  clear z0 z1 z2 z3 cf
  have cc := clean_any L _ w5 HS5.out HLL.out
  go_wp2_with (first | (go_at_call 34; refine cc.mono ?_; rintro e w6 ⟨v6, rfl, hs6, hk6⟩; replace hs6 := hs6.src; (obtain ⟨A6, c6, rfl⟩ := hs6.shape); have HS6 := Lib.hid hs6; have HK6 := Lib.hid (HK5.out.tr hk6); clear hs6 hk6) | fail)
  go_ret2
  exact ⟨_, rfl, HS6.out, HK6.out⟩

set_option maxRecDepth 100000 in
set_option maxHeartbeats 3200000 in
theorem rcirc_bad (cx cy r t : Int) (hr : r < 1 ∨ 2000 < r) (w : World) : Calls Try.prog 18 #[vV cx cy, .int .i64 r, .int .i64 t] w fun e w' => e = .returned (.tuple #[.slice none 0 0, .int .i64 1]) ∧ Nw w w' := by
  by_cases h1 : r < 1
  · have e1 : decide (r < 1) = true := decide_eq_true h1
    clear hr
    go_enter Try.func18, Try.ntmps18
    go_wp2_with fail
    go_ret2
    exact ⟨rfl, by repeat (first | exact Kp.refl _ _ | refine Kp.drew ?_ | refine Kp.alloc ?_ _)⟩
  · have e1 : decide (r < 1) = false := decide_eq_false h1
    have e2 : decide (2000 < r) = true := decide_eq_true (by omega)
    clear hr
    go_enter Try.func18, Try.ntmps18
    go_wp2_with fail
    go_ret2
    exact ⟨rfl, by repeat (first | exact Kp.refl _ _ | refine Kp.drew ?_ | refine Kp.alloc ?_ _)⟩

set_option maxRecDepth 100000 in
set_option maxHeartbeats 6400000 in
theorem rcirc_err (cx cy r t : Int) (_hcy : I64 cy) (hr : 1 ≤ r ∧ r ≤ 2000) {L : List (Int × Int)} {ec : Int} (cf : FlatR 13 (arV (w64 (cx + r)) cy (w64 (cx + r)) cy cx cy false) (.int .i64 t) L ec) (hec : ec ≠ 0) (w : World) : Calls Try.prog 18 #[vV cx cy, .int .i64 r, .int .i64 t] w fun e w' => e = .returned (.tuple #[.slice none 0 0, .int .i64 ec]) ∧ Nw w w' := by
  unfold FlatR at cf
  have e0 : (ec == 0) = false := by simp [hec]
  have e9 : (ec != 0) = true := by simp [hec]
  have e1 : decide (r < 1) = false := decide_eq_false (by omega)
  have e2 : decide (2000 < r) = false := decide_eq_false (by omega)
  have a1 : wrap64 (cx + r) = w64 (cx + r) := rfl
  obtain ⟨W0, hW0⟩ : ∃ W, (w.alloc (.cells #[.int .i64 cx, .int .i64 cy] 23)) = W := ⟨_, rfl⟩
  have HW := Lib.hid (show Nw w W0 by rw [← hW0]; exact nw_alloc _ _)
  have HB0 := Lib.hid (show Blk W0 w.heap.size 23 #[.int .i64 cx, .int .i64 cy] by rw [← hW0]; exact Blk.new _ _ _)
  have m0 := HB0.out.cell 0
  have m1 := HB0.out.cell 1
  generalize hX : w64 (cx + r) = X at *
  go_enter Try.func18, Try.ntmps18
  go_upto_region 1 with fail
  try rw [hW0]
  clear hW0
  go_upto_region 4 with fail
  generalize hwm : World.alloc _ _ = wm
  have HNM := Lib.hid (show Nw W0 wm by rw [← hwm]; exact nw_alloc _ _)
  obtain ⟨gm, hgm⟩ : ∃ x, W0.heap.size = x := ⟨_, rfl⟩
  have HM := Lib.hid (show Blk wm gm 23 #[.int .i64 X, .int .i64 cy] by rw [← hwm, ← hgm]; exact Blk.new _ _ _)
  try rw [hgm]
  clear hwm hgm m0 m1
  have z0 := (HB0.out.nwA HNM.out).cell 0
  have z1 := (HB0.out.nwA HNM.out).cell 1
  have z2 := HM.out.cell 0
  have z3 := HM.out.cell 1
  go_upto_region 5 with (first | (go_at_call 13; refine (cf _).mono ?_; rintro e w5 ⟨v5, rfl, hs5, hk5⟩; have HS5 := Lib.hid hs5; have HK5 := Lib.hid (HW.out.tr (HNM.out.tr hk5)); (obtain ⟨A5, c5, rfl⟩ := hs5.shape); clear hs5 hk5) | fail)
  clear z0 z1 z2 z3 cf
  go_wp2_with fail
  go_ret2
  exact ⟨rfl, HK5.out⟩

set_option maxRecDepth 100000 in
set_option maxHeartbeats 6400000 in
theorem rcirc_ok (cx cy r t : Int) (_hcy : I64 cy) (hr : 1 ≤ r ∧ r ≤ 2000) {L : List (Int × Int)} (cf : FlatR 13 (arV (w64 (cx + r)) cy (w64 (cx + r)) cy cx cy false) (.int .i64 t) L 0) (hL : L.length ≤ 1099511627776) (w : World) : Calls Try.prog 18 #[vV cx cy, .int .i64 r, .int .i64 t] w fun e w' => ∃ v', e = .returned (.tuple #[v', .int .i64 (G.cleanR L).2]) ∧ SrcV w' v' (G.cleanR L).1 ∧ Nw w w' := by
  unfold FlatR at cf
  have e1 : decide (r < 1) = false := decide_eq_false (by omega)
  have e2 : decide (2000 < r) = false := decide_eq_false (by omega)
  have a1 : wrap64 (cx + r) = w64 (cx + r) := rfl
  obtain ⟨W0, hW0⟩ : ∃ W, (w.alloc (.cells #[.int .i64 cx, .int .i64 cy] 23)) = W := ⟨_, rfl⟩
  have HW := Lib.hid (show Nw w W0 by rw [← hW0]; exact nw_alloc _ _)
  have HB0 := Lib.hid (show Blk W0 w.heap.size 23 #[.int .i64 cx, .int .i64 cy] by rw [← hW0]; exact Blk.new _ _ _)
  have m0 := HB0.out.cell 0
  have m1 := HB0.out.cell 1
  have HLL := Lib.hid hL
  generalize hX : w64 (cx + r) = X at *
  go_enter Try.func18, Try.ntmps18
  go_upto_region 1 with fail
  try rw [hW0]
  clear hW0
  go_upto_region 4 with fail
  generalize hwm : World.alloc _ _ = wm
  have HNM := Lib.hid (show Nw W0 wm by rw [← hwm]; exact nw_alloc _ _)
  obtain ⟨gm, hgm⟩ : ∃ x, W0.heap.size = x := ⟨_, rfl⟩
  have HM := Lib.hid (show Blk wm gm 23 #[.int .i64 X, .int .i64 cy] by rw [← hwm, ← hgm]; exact Blk.new _ _ _)
  try rw [hgm]
  clear hwm hgm m0 m1
  have z0 := (HB0.out.nwA HNM.out).cell 0
  have z1 := (HB0.out.nwA HNM.out).cell 1
  have z2 := HM.out.cell 0
  have z3 := HM.out.cell 1
  go_upto_region 5 with (first | (go_at_call 13; refine (cf _).mono ?_; rintro e w5 ⟨v5, rfl, hs5, hk5⟩; have HS5 := Lib.hid hs5; have HK5 := Lib.hid (HW.out.tr (HNM.out.tr hk5)); (obtain ⟨A5, c5, rfl⟩ := hs5.shape); clear hs5 hk5) | fail)
  clear z0 z1 z2 z3 cf
  have cc := rclean8_any L _ w5 HS5.out HLL.out
  go_wp2_with (first | (go_at_call 35; refine cc.mono ?_; rintro e w6 ⟨v6, rfl, hs6, hk6⟩; (obtain ⟨A6, c6, rfl⟩ := hs6.shape); have HS6 := Lib.hid hs6; have HK6 := Lib.hid (HK5.out.tr hk6); clear hs6 hk6) | fail)
  go_ret2
  exact ⟨_, rfl, HS6.out, HK6.out⟩

end Go.Proofs.Ytlogihcmmoldkaa.W

namespace Go.Proofs.Ytlogihcmmoldkaa.W
open Go.RowKit Go.Proofs.Ytlogihcmmoldkaa.V

set_option maxRecDepth 100000 in
set_option maxHeartbeats 3200000 in
theorem same_any (l : List (Int × Int)) (u v : Value) (w : World) (hu : SrcV w u l) (hv : SrcV w v l) : Calls Try.prog 14 #[u, v] w fun e w' => e = .returned (.bool true) ∧ Nw w w' := by
  obtain ⟨_, A, c, rfl, hnc, hcm, hcell⟩ := hu
  obtain ⟨_, A2, c2, rfl, hnc2, hcm2, hcell2⟩ := hv
  obtain ⟨n, hn⟩ : ∃ n, l.length = n := ⟨_, rfl⟩
  rw [hn] at hnc hcell hnc2 hcell2 ⊢
  unfold maxLen at hcm
  have HN := Lib.hid hn
  have HC := Lib.hid hcell
  have HC2 := Lib.hid hcell2
  clear hn hcell hcell2
  go_enter Try.func14, Try.ntmps14
  go_wp2
  go_loopw [5] (fun i wr => ∃ j : Nat, i = .int .i64 j ∧ j ≤ n ∧ Nw w wr) (fun i _ => n - (intOf i).toNat)
  case atStart => exact ⟨0, rfl, by omega, Kp.refl _ _⟩
  case round =>
    obtain ⟨j, rfl, hj, hnw⟩ := hrel
    have HK := Lib.hid hnw
    clear hnw
    by_cases hkn : j < n
    · have i0 : (0 : Int) ≤ (j : Int) := by omega
      have i1 : (j : Int) < (n : Int) := by omega
      have e3 : IntKind.i64.wrap ((j : Int) + 1) = (j : Int) + 1 := by rw [IntKind.wrap_i64]; omega
      obtain ⟨⟨px, py⟩, hp⟩ : ∃ x, l[j]? = some x := ⟨l[j]'(by rw [HN.out]; omega), List.getElem?_eq_getElem _⟩
      obtain ⟨f1, f2⟩ := flatV_at l j (px, py) hp
      obtain ⟨g, o, rfl, hb, hc⟩ := HC.out (by omega)
      obtain ⟨g2, o2, rfl, hb2, hc2⟩ := HC2.out (by omega)
      have q0 : wr.cell? ⟨g, o + j * 2, none⟩ = some (.int .i64 px) := (HK.out.cell (p := ⟨g, o + j * 2, none⟩) hb id).trans (hc _ _ f1)
      have q1 : wr.cell? ⟨g, o + j * 2 + 1, none⟩ = some (.int .i64 py) := (HK.out.cell (p := ⟨g, o + (j * 2 + 1), none⟩) hb id).trans (hc _ _ f2)
      have q2 : wr.cell? ⟨g2, o2 + j * 2, none⟩ = some (.int .i64 px) := (HK.out.cell (p := ⟨g2, o2 + j * 2, none⟩) hb2 id).trans (hc2 _ _ f1)
      have q3 : wr.cell? ⟨g2, o2 + j * 2 + 1, none⟩ = some (.int .i64 py) := (HK.out.cell (p := ⟨g2, o2 + (j * 2 + 1), none⟩) hb2 id).trans (hc2 _ _ f2)
      clear f1 f2 hp hc hc2
      go_wp2_with fail
      go_region
      go_wp2_with fail
      go_roundw
      case rel => exact ⟨j + 1, by go_num, by omega, by repeat (first | exact HK.out | refine Kp.drew ?_)⟩
      case measure => simp [intOf]; omega
    · obtain rfl : j = n := by omega
      have i5 : ¬ ((j : Int) < (j : Int)) := by omega
      go_wp2_with fail
      go_ret
      exact ⟨rfl, HK.out⟩
end Go.Proofs.Ytlogihcmmoldkaa.W

namespace Go.Proofs.Ytlogihcmmoldkaa.W
open Go.RowKit Go.Proofs.Ytlogihcmmoldkaa.V Go.Proofs.Ytlogihcmmoldkaa.A

theorem isq_of {n r : Int} (h : 0 ≤ r ∧ r * r ≤ n ∧ n < (r + 1) * (r + 1)) : isq n = r := isq_unique h.1 h.2.1 h.2.2
theorem aw_hlf : hlf 5 50 25 = 4 := by
  unfold hlf
  rw [if_neg (by decide), show (4 * 5 * 5 * 25 / 50 : Int) = 50 by decide, isq_of (n := 50) (r := 7) (by decide)]
  decide
theorem aw_mid : mid 25 (5, 0) (0, 5) = (4, 4) := by
  unfold mid
  simp only
  rw [show nrm ((5 : Int) + 0, (0 : Int) + 5) = 50 by decide, show (5 : Int) + 0 = 5 by decide, show (0 : Int) + 5 = 5 by decide, aw_hlf]
theorem aw_clo {R t : Int} {p q : Pt} {a b r1 r2 : Int} (ha : 65536 * R = a) (hb : 65536 * crs0 p q * crs0 p q / nrm (p.1 - q.1, p.2 - q.2) = b) (h1 : 0 ≤ r1 ∧ r1 * r1 ≤ a ∧ a < (r1 + 1) * (r1 + 1)) (h2 : 0 ≤ r2 ∧ r2 * r2 ≤ b ∧ b < (r2 + 1) * (r2 + 1)) : clo R t p q = decide (r1 + 1 ≤ r2 + 256 * t) := by
  unfold clo
  rw [ha, hb, isq_of h1, isq_of h2]
theorem aw_c0 : clo 25 1 (5, 0) (0, 5) = false := by
  rw [aw_clo (a := 1638400) (b := 819200) (r1 := 1280) (r2 := 905) (by decide) (by decide) (by decide) (by decide)]
  decide
theorem aw_c1 : clo 25 1 (5, 0) (4, 4) = true := by
  rw [aw_clo (a := 1638400) (b := 1542023) (r1 := 1280) (r2 := 1241) (by decide) (by decide) (by decide) (by decide)]
  decide
theorem aw_c2 : clo 25 1 (4, 4) (0, 5) = true := by
  rw [aw_clo (a := 1638400) (b := 1542023) (r1 := 1280) (r2 := 1241) (by decide) (by decide) (by decide) (by decide)]
  decide
theorem aw_one {p q : Pt} (h : 65536 * crs0 p q * crs0 p q / nrm (p.1 - q.1, p.2 - q.2) = 32768) : clo 1 1 p q = true := by
  rw [aw_clo (a := 65536) (b := 32768) (r1 := 256) (r2 := 181) (by decide) h (by decide) (by decide)]
  decide
theorem aw_ch1 : Ch 25 1 (5, 0) (0, 5) [(4, 4), (0, 5)] := by
  have h : Bt 25 1 (5, 0) (0, 5) ([] ++ mid 25 (5, 0) (0, 5) :: []) := .st aw_c0 (by rw [aw_mid]; decide) (by rw [aw_mid]; decide) (by rw [aw_mid]; exact .cl aw_c1) (by rw [aw_mid]; exact .cl aw_c2)
  rw [aw_mid] at h
  exact Ch.last (l := [(4, 4)]) (by decide) h
theorem aw_ch2 : Ch 1 1 (1, 0) (1, 0) [(0, 1), (-1, 0), (0, -1), (1, 0)] :=
  Ch.more (l := []) (by decide) (.cl (aw_one (by decide))) (Ch.more (p := (0, 1)) (l := []) (by decide) (.cl (aw_one (by decide))) (Ch.more (p := (-1, 0)) (l := []) (by decide) (.cl (aw_one (by decide))) (Ch.last (p := (0, -1)) (l := []) (by decide) (.cl (aw_one (by decide))))))
theorem aw_flat (w : World) : Calls Try.prog 12 #[arV 5 0 0 5 0 0 false, .int .i64 1] w fun e w' => ∃ v, e = .returned (.tuple #[v, .int .i64 0]) ∧ SrcV w' v [(5, 0), (4, 4), (0, 5)] ∧ Nw w w' :=
  flat_false 5 0 0 5 0 0 1 (by decide +kernel) (by decide) (l := [(4, 4), (0, 5)]) aw_ch1 w
theorem aw_circle (w : World) : Calls Try.prog 17 #[vV 0 0, .int .i64 1, .int .i64 1] w fun e w' => ∃ v, e = .returned (.tuple #[v, .int .i64 0]) ∧ SrcV w' v [(0, -1), (1, 0), (0, 1), (-1, 0)] ∧ Nw w w' := by
  have cf : FlatR 12 (arV 1 0 1 0 0 0 false) (.int .i64 1) [(1, 0), (0, 1), (-1, 0), (0, -1), (1, 0)] 0 := fun w1 => flat_false 1 0 1 0 0 0 1 (by decide +kernel) (by decide) (l := [(0, 1), (-1, 0), (0, -1), (1, 0)]) aw_ch2 w1
  have e1 : w64 ((0 : Int) + 1) = 1 := by decide +kernel
  have h := circ_ok 0 0 1 1 (by unfold I64; omega) (by decide) (L := [(1, 0), (0, 1), (-1, 0), (0, -1), (1, 0)]) (by rw [e1]; exact cf) (by decide) w
  have e : G.cleanR [(1, 0), (0, 1), (-1, 0), (0, -1), (1, 0)] = ([(0, -1), (1, 0), (0, 1), (-1, 0)], 0) := by decide +kernel
  rw [e] at h
  exact h

set_option maxRecDepth 100000 in
set_option maxHeartbeats 6400000 in
theorem awakeA_any (w : World) : Calls Try.prog 11 #[] w fun e w' => e = .returned (.bool true) ∧ Nw w w' := by
  have cf := fun w1 => aw_flat w1
  have cc := fun w1 => aw_circle w1
  go_enter Try.func11, Try.ntmps11
  go_upto_region 3 with (first
    | (go_at_call 12; refine (cf _).mono ?_; rintro e w2 ⟨v2, rfl, s2, k2⟩; (obtain ⟨A2, c2, rfl⟩ := s2.shape); have S2 := Lib.hid s2; have K2 := Lib.hid k2; clear s2 k2)
    | (go_at_call 17; refine (cc _).mono ?_; rintro e w3 ⟨v3, rfl, s3, k3⟩; (obtain ⟨A3, c3, rfl⟩ := s3.shape); have S3 := Lib.hid s3; have K3 := Lib.hid k3; clear s3 k3) | fail)
  clear cf cc
  have cs1 := fun (W : World) (g : Nat) (h : Nw w3 W) (hb : Blk W g 23 #[.int .i64 5, .int .i64 0, .int .i64 4, .int .i64 4, .int .i64 0, .int .i64 5]) => same_any [(5, 0), (4, 4), (0, 5)] (.slice A2 3 c2) (.slice (some ⟨g, 0, none⟩) 3 3) W ((S2.out.nw K3.out).nw h) (src_blk (l := [(5, 0), (4, 4), (0, 5)]) hb (by simp))
  have cs2 := fun (W : World) (g : Nat) (h : Nw w3 W) (hb : Blk W g 23 #[.int .i64 0, .int .i64 (-1), .int .i64 1, .int .i64 0, .int .i64 0, .int .i64 1, .int .i64 (-1), .int .i64 0]) => same_any [(0, -1), (1, 0), (0, 1), (-1, 0)] (.slice A3 4 c3) (.slice (some ⟨g, 0, none⟩) 4 4) W (S3.out.nw h) (src_blk (l := [(0, -1), (1, 0), (0, 1), (-1, 0)]) hb (by simp))
  go_wp2_with (first
    | (go_at_call 14; ((with_reducible refine (cs1 _ _ (nw_alloc _ _) (Blk.new _ _ _)).mono ?_); rintro e w4 ⟨rfl, k4⟩; have K4 := Lib.hid (Kp.tr (nw_alloc w3 _) k4); clear k4))
    | (go_at_call 14; ((with_reducible refine (cs2 _ _ (K4.out.tr (nw_alloc _ _)) (Blk.new _ _ _)).mono ?_); rintro e w5 ⟨rfl, k5⟩; have K5 := Lib.hid (Kp.tr (nw_alloc w4 _) k5); clear k5)) | fail)
  go_ret
  exact ⟨rfl, K2.out.tr (K3.out.tr (K4.out.tr K5.out))⟩

end Go.Proofs.Ytlogihcmmoldkaa.W

namespace Go.Proofs.Ytlogihcmmoldkaa.W
open Go.RowKit Go.Proofs.Ytlogihcmmoldkaa.V Go.Proofs.Ytlogihcmmoldkaa.A

def flatL (cw : Bool) (fx fy tx ty cx cy : Int) (l : List Pt) : List Pt := (if cw then ((tx - cx, ty - cy) :: l).reverse else (fx - cx, fy - cy) :: l).map (mvC cx cy)
def chainOk (cw : Bool) (fx fy tx ty cx cy t : Int) (l : List Pt) : Prop := if cw then Ch (nrm (fx - cx, fy - cy)) t (tx - cx, ty - cy) (fx - cx, fy - cy) l else Ch (nrm (fx - cx, fy - cy)) t (fx - cx, fy - cy) (tx - cx, ty - cy) l
theorem flat_two (fx fy tx ty cx cy t : Int) (cw : Bool) : (∃ ec, ec ≠ 0 ∧ (validA fx fy tx ty cx cy = false ∨ ¬ (1 ≤ t ∧ t ≤ 50)) ∧ FlatR 12 (arV fx fy tx ty cx cy cw) (.int .i64 t) [] ec ∧ FlatR 13 (arV fx fy tx ty cx cy cw) (.int .i64 t) [] ec) ∨
    (validA fx fy tx ty cx cy = true ∧ (1 ≤ t ∧ t ≤ 50) ∧ ∃ l, chainOk cw fx fy tx ty cx cy t l ∧ FlatR 12 (arV fx fy tx ty cx cy cw) (.int .i64 t) (flatL cw fx fy tx ty cx cy l) 0 ∧ FlatR 13 (arV fx fy tx ty cx cy cw) (.int .i64 t) (flatL cw fx fy tx ty cx cy l) 0) := by
  have nil : ∀ {f : FuncId} {a t : Value} {ec : Int}, (∀ w : World, Calls Try.prog f #[a, t] w fun e w' => e = .returned (.tuple #[.slice none 0 0, .int .i64 ec]) ∧ Nw w w') → FlatR f a t [] ec := fun h w1 => (h w1).mono fun e w' ⟨he, hn⟩ => ⟨_, he, src_none _ _ _ (Nat.zero_le _), hn⟩
  cases hv : validA fx fy tx ty cx cy with
  | false => exact .inl ⟨1, by decide, .inl rfl, nil fun w => flat_arg fx fy tx ty cx cy t cw hv w, nil fun w => rflat_arg fx fy tx ty cx cy t cw hv w⟩
  | true =>
    by_cases ht : 1 ≤ t ∧ t ≤ 50
    · right
      obtain ⟨_, _, _, h4, h5, h6⟩ := valid_parts hv
      cases cw with
      | false =>
        obtain ⟨l, hl⟩ := ch_exists (t := t) h4 rfl h6
        exact ⟨rfl, ht, l, hl, fun w => flat_false fx fy tx ty cx cy t hv ht hl w, fun w => rflat_false fx fy tx ty cx cy t hv ht hl w⟩
      | true =>
        obtain ⟨l, hl⟩ := ch_exists (t := t) h4 h6 rfl
        exact ⟨rfl, ht, l, hl, fun w => flat_true fx fy tx ty cx cy t hv ht hl w, fun w => rflat_true fx fy tx ty cx cy t hv ht hl w⟩
    · exact .inl ⟨2, by decide, .inr ht, nil fun w => flat_range fx fy tx ty cx cy t cw hv ht w, nil fun w => rflat_range fx fy tx ty cx cy t cw hv ht w⟩
theorem flat_same (fx fy tx ty cx cy t : Int) (cw : Bool) : ∃ L ec, FlatR 12 (arV fx fy tx ty cx cy cw) (.int .i64 t) L ec ∧ FlatR 13 (arV fx fy tx ty cx cy cw) (.int .i64 t) L ec := by
  rcases flat_two fx fy tx ty cx cy t cw with ⟨ec, _, _, h⟩ | ⟨_, _, l, _, h⟩
  · exact ⟨_, _, h⟩
  · exact ⟨_, _, h⟩

set_option maxRecDepth 100000 in
set_option maxHeartbeats 6400000 in
theorem lawFlatten_any (fx fy tx ty cx cy t : Int) (cw : Bool) (w : World) : Calls Try.prog 3 #[arV fx fy tx ty cx cy cw, .int .i64 t] w fun e w' => e = .returned (.bool true) ∧ Nw w w' := by
  have hmix := mixed7
  obtain ⟨L, ec, hf, hg⟩ := flat_same fx fy tx ty cx cy t cw
  unfold FlatR at hf hg
  obtain ⟨W0, hW0⟩ : ∃ W, w.alloc (.cells (arC fx fy tx ty cx cy cw) 25) = W := ⟨_, rfl⟩
  have HB0 := Lib.hid (show Blk W0 w.heap.size 25 (arC fx fy tx ty cx cy cw) by rw [← hW0]; exact Blk.new _ _ _)
  have HNW := Lib.hid (show Nw w W0 by rw [← hW0]; exact nw_alloc _ _)
  go_enter Try.func3, Try.ntmps3
  go_upto_region 1 with fail
  try rw [hW0]
  clear hW0
  go_upto_region 3 with (first | (go_at_call 11; ((with_reducible refine (awakeA_any _).mono ?_); rintro e w1 ⟨rfl, k1⟩; have K1 := Lib.hid k1; clear k1)) | fail)
  have z0 := (HB0.out.nwA K1.out).cell 0
  have z1 := (HB0.out.nwA K1.out).cell 1
  have z2 := (HB0.out.nwA K1.out).cell 2
  have z3 := (HB0.out.nwA K1.out).cell 3
  have z4 := (HB0.out.nwA K1.out).cell 4
  have z5 := (HB0.out.nwA K1.out).cell 5
  have z6 := (HB0.out.nwA K1.out).cell 6
  go_upto_region 4 with (first | (go_at_call 12; refine (hf _).mono ?_; rintro e w2 ⟨v2, rfl, s2, k2⟩; (obtain ⟨A2, c2, rfl⟩ := s2.shape); have S2 := Lib.hid s2; have K2 := Lib.hid k2; clear s2 k2) | fail)
  clear z0 z1 z2 z3 z4 z5 z6 hf
  have HN2 := Lib.hid (K1.out.tr K2.out)
  have z0 := (HB0.out.nwA HN2.out).cell 0
  have z1 := (HB0.out.nwA HN2.out).cell 1
  have z2 := (HB0.out.nwA HN2.out).cell 2
  have z3 := (HB0.out.nwA HN2.out).cell 3
  have z4 := (HB0.out.nwA HN2.out).cell 4
  have z5 := (HB0.out.nwA HN2.out).cell 5
  have z6 := (HB0.out.nwA HN2.out).cell 6
  go_upto_region 5 with (first | (go_at_call 13; refine (hg _).mono ?_; rintro e w3 ⟨v3, rfl, s3, k3⟩; (obtain ⟨A3, c3, rfl⟩ := s3.shape); have S3 := Lib.hid s3; have K3 := Lib.hid k3; clear s3 k3) | fail)
  clear z0 z1 z2 z3 z4 z5 z6 hg
  have HN3 := Lib.hid (HN2.out.tr K3.out)
  have q0 := fun p : KeptW w3 => ((HB0.out.nwA HN3.out).kept p).cell 0
  have q1 := fun p : KeptW w3 => ((HB0.out.nwA HN3.out).kept p).cell 1
  have q2 := fun p : KeptW w3 => ((HB0.out.nwA HN3.out).kept p).cell 2
  have q3 := fun p : KeptW w3 => ((HB0.out.nwA HN3.out).kept p).cell 3
  have q4 := fun p : KeptW w3 => ((HB0.out.nwA HN3.out).kept p).cell 4
  have q5 := fun p : KeptW w3 => ((HB0.out.nwA HN3.out).kept p).cell 5
  have q6 := fun p : KeptW w3 => ((HB0.out.nwA HN3.out).kept p).cell 6
  have cs := fun p : KeptW w3 => same_any L _ _ p.wd ((S2.out.nw K3.out).nw p.since) (S3.out.nw p.since)
  have cv := fun p : KeptW w3 => avalid_any fx fy tx ty cx cy cw p.wd
  have cr := fun p : KeptW w3 => ravalid_any fx fy tx ty cx cy cw p.wd
  generalize validA fx fy tx ty cx cy = b at *
  have eb : (b == b) = true := by simp
  refine wp_region_kept (Kp.refl _ _) (by assumption) (by kernel_rfl) ?_
  repeat (with_reducible refine wpQuiet_step (fun K hK => ?_); go_simp; first | ((with_reducible refine hK _ ?_); clear hK K) | (with_reducible apply Exists.intro; (with_reducible refine ⟨fun _ => ?_, hK _ ?_⟩); ((first | (go_at_call 14; with_reducible exact Calls.kept_of (cs _)) | (go_at_call 15; with_reducible exact Calls.kept_of (cv _)) | (go_at_call 16; with_reducible exact Calls.kept_of (cr _)) | fail)); clear hK K) | (simp only [undef, reduceCtorEq, if_false]; (with_reducible refine hK _ ?_); clear hK K))
  with_reducible refine wpQuiet_nil ?_
  rintro _ ⟨p, rfl⟩
  go_wp2_with fail
  go_ret
  exact ⟨rfl, by repeat (first | exact (HNW.out.tr HN3.out).tr p.since | refine Kp.drew ?_)⟩

end Go.Proofs.Ytlogihcmmoldkaa.W

namespace Go.Proofs.Ytlogihcmmoldkaa.W
open Go.ChangeShapes Go.WideShapes Go.ChangeAt Go.RowKit

theorem own : ownKnob Try.prog.godebug = none := by kernel_rfl
theorem laidOut : laidOutB Try.prog = true := by kernel_rfl

theorem args_below {H : Type} {enc : TypeId × Value → H} {W W' : World} (hb : Below W.heap.size W W') : ∀ (ts : List TypeId) (vs : List Value) (ds : List (DataW H)) (ps : List MemPlace),
    (∀ t ∈ ts, Try.prog.readableRec t = true ∧ t < Try.prog.types.size) → (∀ x ∈ ps, x.block < W.heap.size) →
    DataW.TrodAll enc Try.prog W 0 (fun _ => true) true ts vs ds ps → DataW.TrodAll enc Try.prog W' 0 (fun b => decide (b < W.heap.size)) true ts vs ds ps := by
  intro ts
  induction ts with
  | nil =>
    intro vs ds ps _ _ h
    obtain ⟨rfl, rfl, rfl⟩ := trodAll_nil h
    exact trodAll_mk0
  | cons t ts ih =>
    intro vs ds ps ht hlt h
    obtain ⟨v, vs', d, ds', p, q, rfl, rfl, rfl, h0, hr⟩ := trodAll_cons h
    refine trodAll_cons_mk (Below.trod laidOut (ht t (by simp)).1 (ht t (by simp)).2 h0 hb (fun x hx => hlt x (by simp [hx]))) (ih vs' ds' q (fun t' h' => ht t' (by simp [h'])) (fun x hx => hlt x (by simp [hx])) hr)

theorem law_post {H : Type} {enc : TypeId × Value → H} {f : Func} {s : ChangeSpec} {W W' : World} {args : Array Value} {ds gs : List (DataW H)} {before : List MemPlace}
    (hW : DataW.Whole enc Try.prog f.params.toList s.vars false W args.toList ds gs before) (hb : Below W.heap.size W W') (hv : s.vars = []) (hr : f.resultTypes = #[4])
    (ht : ∀ t ∈ f.params.toList, Try.prog.readableRec t = true ∧ t < Try.prog.types.size)
    (hs : gs = [] → (s.fn H (ds ++ gs)).results = [.lit (.bool true)] ∧ (s.fn H (ds ++ gs)).args = ds ∧ (s.fn H (ds ++ gs)).vars = []) :
    s.post enc Try.prog f false true false false W args (.bool true) W' := by
  have hlt := hW.lt
  have hW0 := hW
  obtain ⟨p, q, hA, hV, rfl, _, _⟩ := hW
  rw [hv] at hV
  obtain ⟨rfl, rfl⟩ := trodVars_none hV
  obtain ⟨h1, h2, h3⟩ := hs rfl
  refine ⟨ds, [], p ++ [], [], p, [], hW0, ?_, ?_, ?_, World.keptBut_mono (fun x hx => ?_) (hb.frame (· ∈ p ++ [])), fun h => by cases h⟩
  · rw [h1, hr]
    exact trodAll_cons_mk (shut_bool Try.underlying4 true) trodAll_mk0
  · rw [h2]
    exact args_below hb _ _ _ _ ht (fun x hx => hlt x (by simp [hx])) hA
  · rw [h3, hv]
    rfl
  · exact ⟨hx, .inr (.inl (by simpa using hx))⟩
end Go.Proofs.Ytlogihcmmoldkaa.W

namespace Go.Proofs.Ytlogihcmmoldkaa.W
open Go.ChangeShapes Go.WideShapes Go.ChangeAt Go.RowKit Go.Deep

theorem u64_of {x : Int} (h : (Lit.int .u64 x).wf = true) : 0 ≤ x ∧ x < 18446744073709551616 := by
  simp only [Lit.wf, Bool.and_eq_true, decide_eq_true_eq] at h
  have e1 : IntKind.u64.min = 0 := rfl
  have e2 : IntKind.u64.max = 18446744073709551615 := rfl
  exact ⟨by omega, by omega⟩
theorem u16_of {x : Int} (h : (Lit.int .u16 x).wf = true) : 0 ≤ x ∧ x < 65536 := by
  simp only [Lit.wf, Bool.and_eq_true, decide_eq_true_eq] at h
  have e1 : IntKind.u16.min = 0 := rfl
  have e2 : IntKind.u16.max = 65535 := rfl
  exact ⟨by omega, by omega⟩
theorem u8_of {x : Int} (h : (Lit.int .u8 x).wf = true) : 0 ≤ x ∧ x < 256 := by
  simp only [Lit.wf, Bool.and_eq_true, decide_eq_true_eq] at h
  have e1 : IntKind.u8.min = 0 := rfl
  have e2 : IntKind.u8.max = 255 := rfl
  exact ⟨by omega, by omega⟩
theorem i64_of {x : Int} (h : (Lit.int .i64 x).wf = true) : -9223372036854775808 ≤ x ∧ x ≤ 9223372036854775807 := by
  simp only [Lit.wf, Bool.and_eq_true, decide_eq_true_eq] at h
  have e1 : IntKind.i64.min = -9223372036854775808 := rfl
  have e2 : IntKind.i64.max = 9223372036854775807 := rfl
  exact ⟨by omega, by omega⟩

section
variable {H : Type} {enc : TypeId × Value → H} {W : World} {base : Nat} {v : Value} {d : DataW H} {p : List MemPlace}

set_option maxRecDepth 100000 in
theorem openRows {α : Type} [Inhabited α] {T E size : Nat} {f : α → List Value} {P : α → Prop} (hu : Try.prog.underlying T = some (.slice E)) (hC : Try.prog.cellsOf E = size) (hs0 : 0 < size) (hf : ∀ x, (f x).length = size)
    (hopen : ∀ n cs y, DataW.trod enc Try.prog W 0 (fun _ => true) true n E cs = some y → ∃ x, cs = f x ∧ P x)
    (hv : Value.okWide Try.prog W .any base T v) (h : DataW.Trod enc Try.prog W 0 (fun _ => true) true T v d p) :
    ∃ l : List α, Src W size v l.length (flat f l) ∧ (∀ x ∈ l, P x) ∧ (l = [] ∨ ∃ es sp, d = .slice es sp ∧ es.length = l.length) := by
  obtain ⟨a0, len0, cap0, rfl⟩ := okWide_slice hu hv
  obtain ⟨fuel, hf0⟩ := h
  rcases open_slice hu hf0 with ⟨hcs, hx⟩ | ⟨a, len, cap, m, n, D, Pl, hcs, hb, hl, hm, hmm, hx, hi⟩
  · simp [Value.cells] at hcs
    obtain ⟨rfl, rfl, rfl⟩ := hcs
    exact ⟨[], Src.nil W size, fun x hx => absurd hx List.not_mem_nil, .inl rfl⟩
  · simp [Value.cells] at hcs
    obtain ⟨rfl, rfl, rfl⟩ := hcs
    simp only [Prod.mk.injEq] at hx
    obtain ⟨rfl, rfl⟩ := hx
    simp only [if_true] at hmm
    have hel : ∀ i, i < len0 → ∃ x, P x ∧ ∀ j u, (f x)[j]? = some u → W.cell? (a.add (i * size + j)) = some u := fun i hlt => by
      obtain ⟨cs', hc, ht⟩ := hi i (by omega)
      obtain ⟨x, rfl, hp⟩ := hopen _ _ _ ht
      rw [hC] at hc
      obtain ⟨_, hcl, hat⟩ := World.cells?_some hc
      refine ⟨x, hp, fun j u hj => ?_⟩
      have hjl : j < size := by
        have := (List.getElem?_eq_some_iff.1 hj).1
        rw [hf] at this
        exact this
      rw [← Go.Deep.add_add, hat j hjl]
      exact hj
    let g : Nat → α := fun i => if h : i < len0 then Classical.choose (hel i h) else default
    have hg : ∀ i, i < len0 → P (g i) ∧ ∀ j u, (f (g i))[j]? = some u → W.cell? (a.add (i * size + j)) = some u := fun i hlt => by
      have : g i = Classical.choose (hel i hlt) := dif_pos hlt
      rw [this]
      exact Classical.choose_spec (hel i hlt)
    have hlen : ((List.range len0).map g).length = len0 := by simp
    refine ⟨(List.range len0).map g, ⟨?_, some a, cap0, by rw [hlen], by rw [hlen]; exact hl, hm, fun hn => ?_⟩, fun x hx => ?_, .inr ⟨_, _, rfl, by simp⟩⟩
    · rw [flat_length hf]
    · rw [hlen] at hn
      have hat : ∀ i j u, i < len0 → (f (g i))[j]? = some u → W.cell? (a.add (i * size + j)) = some u := fun i j u hlt hj => (hg i hlt).2 j u hj
      have hne : ∃ u, (f (g 0))[0]? = some u := ⟨_, List.getElem?_eq_getElem (by rw [hf]; exact hs0)⟩
      obtain ⟨u0, hu0⟩ := hne
      have h0 := hat 0 0 u0 hn hu0
      obtain ⟨gb, o, sp⟩ := a
      have hsp : sp = none := by simpa [Addr.add] using World.cell?_spot h0
      subst hsp
      have hbl : gb < W.heap.size := by
        have := World.block_lt_of_cell? W _ h0
        rwa [block_add] at this
      refine ⟨gb, o, rfl, hbl, fun j u hj => ?_⟩
      have hjl := (List.getElem?_eq_some_iff.1 hj).1
      rw [flat_length hf, hlen] at hjl
      have hq : j / size < len0 := Nat.div_lt_of_lt_mul (by rw [Nat.mul_comm]; exact hjl)
      have hjm := Nat.div_add_mod j size
      have hr : j % size < size := Nat.mod_lt _ hs0
      have hx : ((List.range len0).map g)[j / size]? = some (g (j / size)) := by rw [List.getElem?_map, List.getElem?_range hq]; rfl
      have ej : j = j / size * size + j % size := by rw [Nat.mul_comm]; exact hjm.symm
      rw [ej, flat_at hf (j % size) hx hr] at hj
      have := hat _ _ _ hq hj
      rw [← ej] at this
      rw [addr_lit _ j rfl] at this
      exact this
    · obtain ⟨i, hi', rfl⟩ := List.mem_map.1 hx
      exact (hg i (List.mem_range.1 hi')).1
end

theorem sizedLen {H : Type} {ts : List TypeId} {ds : List (DataW H)} {j : Nat} {t e : TypeId} {d : DataW H} {n b : Nat} (h : (DataW.weightsEach Try.prog ts ds).all (· ≤ reachBytes) = true) (ht : ts[j]? = some t) (hd : ds[j]? = some d) (hu : Try.prog.underlying t = some (.slice e))
    (hb : Try.prog.bytesOf e = b) (hb1 : 1 ≤ b) (hs : n = 0 ∨ ∃ es sp, d = .slice es sp ∧ es.length = n) : n ≤ 140737488355328 := by
  rcases hs with h0 | ⟨es, sp, rfl, rfl⟩
  · omega
  · have := sized_slice h ht hd hu
    rw [hb] at this
    simp only [reachBytes] at this
    have h2 : es.length ≤ (es.length + sp.length) * b := Nat.le_trans (Nat.le_add_right _ _) (Nat.le_mul_of_pos_right _ hb1)
    omega
end Go.Proofs.Ytlogihcmmoldkaa.W
