/-
  arc: whether a chord is close, the middle of two points, and whether an angle is at most 90 degrees: what the functions of both sides return. Conditions: the coordinates are within 2000, the numbers as in a valid arc.
  arc: the middle of two points, of the program (by a closure) and of the reference. Conditions: the coordinates are within 2000, the numbers as in a valid arc, the sum is not zero.
  vec: Sorted of a list whose sorted form has no two equal neighbours, and what it calls: what they return. Condition: the list is not longer than a slice may be.
-/
import Derived.Test.YtlogihcmmoldkaaK06
import Derived.Test.YtlogihcmmoldkaaK05
import Derived.Test.YtlogihcmmoldkaaLayV
namespace Go.Proofs.Ytlogihcmmoldkaa.W
open Go.RowKit Go.Proofs.Ytlogihcmmoldkaa.V Go.Proofs.Ytlogihcmmoldkaa.A

def Sm2 (p : Int × Int) : Prop := (-2000 ≤ p.1 ∧ p.1 ≤ 2000) ∧ (-2000 ≤ p.2 ∧ p.2 ≤ 2000)
theorem isq_big {n : Int} (h : n < 9223372036854775808) : isq n ≤ 3037000499 := isq_le (by omega) (by decide)
/-- the numbers of a chord -/
theorem close_words {px py qx qy R t : Int} (hp : Sm2 (px, py)) (hq : Sm2 (qx, qy)) (hR : 0 ≤ R ∧ R ≤ 4000000) (ht : 1 ≤ t ∧ t ≤ 50) (hD : 0 < nrm (px - qx, py - qy)) :
    ∃ c D k : Int, crossV px py qx qy = c ∧ w64 (px - qx) = px - qx ∧ w64 (py - qy) = py - qy ∧ dotV (px - qx) (py - qy) (px - qx) (py - qy) = D ∧ ¬ D = 0 ∧
      IntKind.i64.wrap (65536 * c) = 65536 * c ∧ IntKind.i64.wrap (65536 * c * c) = 65536 * c * c ∧ IntKind.i64.wrap ((65536 * c * c).tdiv D) = k ∧ I64 k ∧
      IntKind.i64.wrap (256 * t) = 256 * t ∧ IntKind.i64.wrap (isq k + 256 * t) = isq k + 256 * t ∧ IntKind.i64.wrap (65536 * R) = 65536 * R ∧ I64 (65536 * R) ∧ IntKind.i64.wrap (isq (65536 * R) + 1) = isq (65536 * R) + 1 ∧
      clo R t (px, py) (qx, qy) = decide (isq (65536 * R) + 1 ≤ isq k + 256 * t) := by
  unfold Sm2 at hp hq
  simp only at hp hq
  have m1 := abs_mul_le (x := px) (y := qy) (A := 2000) (B := 2000) (by omega) (by omega)
  have m2 := abs_mul_le (x := py) (y := qx) (A := 2000) (B := 2000) (by omega) (by omega)
  obtain ⟨c, hc⟩ : ∃ c, px * qy - py * qx = c := ⟨_, rfl⟩
  have hc2 : -8000000 ≤ c ∧ c ≤ 8000000 := by omega
  have m3 := abs_mul_le (x := c) (y := c) (A := 8000000) (B := 8000000) hc2 hc2
  have m4 := abs_mul_le (x := px - qx) (y := px - qx) (A := 4000) (B := 4000) (by omega) (by omega)
  have m5 := abs_mul_le (x := py - qy) (y := py - qy) (A := 4000) (B := 4000) (by omega) (by omega)
  have n3 := sqn c
  obtain ⟨D, hDD⟩ : ∃ D, nrm (px - qx, py - qy) = D := ⟨_, rfl⟩
  rw [hDD] at hD
  have hD1 : D = (px - qx) * (px - qx) + (py - qy) * (py - qy) := by rw [← hDD]; rfl
  have e : 65536 * c * c = 65536 * (c * c) := by rw [Int.mul_assoc]
  obtain ⟨N, hN⟩ : ∃ N, 65536 * c * c = N := ⟨_, rfl⟩
  have N0 : 0 ≤ N ∧ N < 9223372036854775808 := by omega
  have k0 : 0 ≤ N / D := Int.ediv_nonneg N0.1 (by omega)
  have k1 : N / D ≤ N := Int.ediv_le_self D N0.1
  have r1 := isq_big (n := N / D) (by omega)
  have r0 := isq_nn (N / D)
  have s1 := isq_big (n := 65536 * R) (by omega)
  have s0 := isq_nn (65536 * R)
  refine ⟨c, D, N / D, ?_, w64_id ⟨by omega, by omega⟩, w64_id ⟨by omega, by omega⟩, ?_, by omega, ?_, ?_, ?_, ⟨by omega, by omega⟩, ?_, ?_, ?_, ⟨by omega, by omega⟩, ?_, ?_⟩
  · unfold crossV
    rw [hc]
    exact w64_id ⟨by omega, by omega⟩
  · unfold dotV
    rw [← hD1]
    exact w64_id ⟨by omega, by omega⟩
  · rw [IntKind.wrap_i64]; omega
  · rw [IntKind.wrap_i64]; omega
  · rw [hN, tdiv_pos N0.1, IntKind.wrap_i64]; omega
  · rw [IntKind.wrap_i64]; omega
  · rw [IntKind.wrap_i64]; omega
  · rw [IntKind.wrap_i64]; omega
  · rw [IntKind.wrap_i64]; omega
  · unfold clo
    simp only
    rw [hDD, show crs0 (px, py) (qx, qy) = c from hc, hN]

set_option maxRecDepth 100000 in
set_option maxHeartbeats 3200000 in
theorem close_any (px py qx qy R t : Int) (hp : Sm2 (px, py)) (hq : Sm2 (qx, qy)) (hR : 0 ≤ R ∧ R ≤ 4000000) (ht : 1 ≤ t ∧ t ≤ 50) (hD : 0 < nrm (px - qx, py - qy)) (w : World) : Calls Try.prog 39 #[vV px py, vV qx qy, .int .i64 R, .int .i64 t] w fun e w' => e = .returned (.bool (clo R t (px, py) (qx, qy))) ∧ Nw w w' := by
  have hmix := mixed7
  obtain ⟨c, D, k, e1, e2, e3, e4, z0, b1, b2, b3, ik, b4, b5, b6, iR, b7, hres⟩ := close_words hp hq hR ht hD
  rw [hres]
  have c1 := fun w1 => sub_any px py qx qy w1
  have c2 := fun w1 => cross_any px py qx qy w1
  rw [e2, e3] at c1
  rw [e1] at c2
  have c3 := fun w1 => dot_any (px - qx) (py - qy) (px - qx) (py - qy) w1
  rw [e4] at c3
  have c4 := fun w1 => root_any k ik w1
  have c5 := fun w1 => root_any (65536 * R) iR w1
  generalize isq k = r1 at *
  generalize isq (65536 * R) = r2 at *
  generalize px - qx = x1 at *
  generalize py - qy = y1 at *
  have HW := Lib.hid (show Nw w ((w.alloc (.cells #[.int .i64 px, .int .i64 py] 23)).alloc (.cells #[.int .i64 qx, .int .i64 qy] 23)) from (nw_alloc _ _).alloc _)
  clear hres hp hq hR ht hD e1 e2 e3 e4 ik iR
  have hF : ∀ w', Nw ((w.alloc (.cells #[.int .i64 px, .int .i64 py] 23)).alloc (.cells #[.int .i64 qx, .int .i64 qy] 23)) w' → Blk w' w.heap.size 23 #[.int .i64 px, .int .i64 py] ∧ Blk w' (w.heap.size + 1) 23 #[.int .i64 qx, .int .i64 qy] := fun w' h => ⟨((Blk.new_at w 23 #[.int .i64 px, .int .i64 py] (n := w.heap.size) rfl).alloc _).kp h id, (Blk.new_at _ 23 #[.int .i64 qx, .int .i64 qy] (n := w.heap.size + 1) (by simp)).kp h id⟩
  have HP := Lib.hid (show ∀ w', Nw ((w.alloc (.cells #[.int .i64 px, .int .i64 py] 23)).alloc (.cells #[.int .i64 qx, .int .i64 qy] 23)) w' → w'.cell? (⟨w.heap.size, 0, none⟩ : Addr) = some (.int .i64 px) ∧ w'.cell? (⟨w.heap.size, 1, none⟩ : Addr) = some (.int .i64 py) ∧ w'.cell? (⟨w.heap.size + 1, 0, none⟩ : Addr) = some (.int .i64 qx) ∧ w'.cell? (⟨w.heap.size + 1, 1, none⟩ : Addr) = some (.int .i64 qy) from fun w' h => by
    obtain ⟨a, b⟩ := hF w' h
    exact ⟨a.cell 0, a.cell 1, b.cell 0, b.cell 1⟩)
  clear hF
  go_enter Try.func39, Try.ntmps39
  go_upto_region 1 with fail
  generalize hw3 : ((w.alloc (.cells #[.int .i64 px, .int .i64 py] 23)).alloc (.cells #[.int .i64 qx, .int .i64 qy] 23)) = w3 at HP HW ⊢
  clear hw3
  go_cut [9, 10] from 12 to 17 (fun p9 v10 wx => ∃ g, p9 = .pointer (some ⟨g, 0, none⟩) ∧ v10 = .int .i64 c ∧ Blk wx g 23 #[.int .i64 x1, .int .i64 y1] ∧ Nw w3 wx)
  case first =>
    go_wp2_with fail
    go_region_held3 (fun w' : World => w'.cell? (⟨w.heap.size, 0, none⟩ : Addr) = some (.int .i64 px) ∧ w'.cell? (⟨w.heap.size, 1, none⟩ : Addr) = some (.int .i64 py) ∧ w'.cell? (⟨w.heap.size + 1, 0, none⟩ : Addr) = some (.int .i64 qx) ∧ w'.cell? (⟨w.heap.size + 1, 1, none⟩ : Addr) = some (.int .i64 qy))
      (first | ((refine HP.out _ ?_); (repeat (first | exact hb2 | exact hb1 | exact Kp.refl _ _ | refine Kp.alloc ?_ _ | refine Kp.drew ?_ | refine Kp.new ?_ (by omega) _ _))) | fail)
      (first | (go_at_call 26; ((with_reducible refine (c1 _).mono ?_); rintro e u1 ⟨rfl, hk1⟩; have hb1 : Nw w3 u1 := Kp.tr (by repeat (first | exact hb2 | exact hb1 | exact Kp.refl _ _ | refine Kp.alloc ?_ _ | refine Kp.drew ?_ | refine Kp.new ?_ (by omega) _ _)) hk1; have l1 := hb1.size; with_reducible (first | (have p0 := Blk.nwA (Blk.drew (Blk.new_at _ 23 #[.int .i64 0, .int .i64 0] (n := w3.heap.size) (by simp))) hk1; have t1 := p0.cell 0; have t2 := p0.cell 1; have t3 := p0.frozen 0; have t4 := p0.frozen 1; have t5 := p0.lt) | skip))) | (go_at_call 59; ((with_reducible refine (c2 _).mono ?_); rintro e u2 ⟨rfl, hk2⟩; have hb2 : Nw w3 u2 := Kp.tr (by repeat (first | exact hb2 | exact hb1 | exact Kp.refl _ _ | refine Kp.alloc ?_ _ | refine Kp.drew ?_ | refine Kp.new ?_ (by omega) _ _)) hk2; have l2 := hb2.size; with_reducible (first | (have t := p0; have pp := Blk.nwA p0 hk2; have t1 := pp.cell 0; have t2 := pp.cell 1; have t3 := pp.frozen 0; have t4 := pp.frozen 1; have t5 := pp.lt) | (have pp := Blk.nwA (Blk.new_at _ 23 #[.int .i64 0, .int .i64 0] (n := u1.heap.size) (by simp)) hk2; have t1 := pp.cell 0; have t2 := pp.cell 1; have t3 := pp.frozen 0; have t4 := pp.frozen 1; have t5 := pp.lt) | skip))))
    all_goals (go_wp2_with fail; go_meet; case rel => (first | exact ⟨_, rfl, rfl, Blk.new _ _ _, hb2.alloc _⟩ | exact ⟨_, rfl, rfl, pp.lay2 _ _, hb2.newA (by omega) _ _⟩))
  case rest =>
    obtain ⟨g9, rfl, rfl, b9, hk9⟩ := hcut
    have HC := Lib.hid (HW.out.tr hk9)
    have y0 := b9.cell 0
    have y1' := b9.cell 1
    clear b9 hk9 c1 c2
    go_wp2_with (first | (go_at_call 32; ((with_reducible refine (Calls.kept_first (c3 _)).mono ?_); rintro e _ ⟨rfl, p, rfl⟩)) | (go_at_call 19; ((with_reducible refine (Calls.kept_of (c4 _)).mono ?_); rintro e _ ⟨rfl, p, rfl⟩)) | (go_at_call 19; ((with_reducible refine (Calls.kept_of (c5 _)).mono ?_); rintro e _ ⟨rfl, p, rfl⟩)) | fail)
    go_ret
    exact ⟨rfl, by repeat (first | exact HC.out.tr p.since | refine Kp.drew ?_ | refine Kp.alloc ?_ _)⟩

set_option maxRecDepth 100000 in
set_option maxHeartbeats 3200000 in
theorem rclose_any (px py qx qy R t : Int) (hp : Sm2 (px, py)) (hq : Sm2 (qx, qy)) (hR : 0 ≤ R ∧ R ≤ 4000000) (ht : 1 ≤ t ∧ t ≤ 50) (hD : 0 < nrm (px - qx, py - qy)) (w : World) : Calls Try.prog 61 #[vV px py, vV qx qy, .int .i64 R, .int .i64 t] w fun e w' => e = .returned (.bool (clo R t (px, py) (qx, qy))) ∧ Nw w w' := by
  have hmix := mixed7
  obtain ⟨c, D, k, e1, e2, e3, e4, z0, b1, b2, b3, ik, b4, b5, b6, iR, b7, hres⟩ := close_words hp hq hR ht hD
  rw [hres]
  have c1 := fun w1 => rsub_any px py qx qy w1
  have c2 := fun w1 => rcross_any px py qx qy w1
  rw [e2, e3] at c1
  rw [e1] at c2
  have c3 := fun w1 => square_any (px - qx) (py - qy) D e4 w1
  skip
  have c4 := fun w1 => rroot_any k ik w1
  have c5 := fun w1 => rroot_any (65536 * R) iR w1
  generalize isq k = r1 at *
  generalize isq (65536 * R) = r2 at *
  generalize px - qx = x1 at *
  generalize py - qy = y1 at *
  have HW := Lib.hid (show Nw w ((w.alloc (.cells #[.int .i64 px, .int .i64 py] 23)).alloc (.cells #[.int .i64 qx, .int .i64 qy] 23)) from (nw_alloc _ _).alloc _)
  clear hres hp hq hR ht hD e1 e2 e3 e4 ik iR
  have hb0 := Blk.new_at w 23 #[.int .i64 px, .int .i64 py] (n := w.heap.size) (by simp)
  have hb1 := Blk.new_at (w.alloc (.cells #[.int .i64 px, .int .i64 py] 23)) 23 #[.int .i64 qx, .int .i64 qy] (n := w.heap.size + 1) (by simp)
  have hk0 : ∀ p : KeptW ((w.alloc (.cells #[.int .i64 px, .int .i64 py] 23)).alloc (.cells #[.int .i64 qx, .int .i64 qy] 23)), Blk p.wd (w.heap.size) 23 #[.int .i64 px, .int .i64 py] := fun p => (hb0.alloc _).kept p
  have q0 := fun p => (hk0 p).cell 0
  have q1 := fun p => (hk0 p).cell 1
  have hk1 : ∀ p : KeptW ((w.alloc (.cells #[.int .i64 px, .int .i64 py] 23)).alloc (.cells #[.int .i64 qx, .int .i64 qy] 23)), Blk p.wd (w.heap.size + 1) 23 #[.int .i64 qx, .int .i64 qy] := fun p => hb1.kept p
  have q2 := fun p => (hk1 p).cell 0
  have q3 := fun p => (hk1 p).cell 1
  skip
  clear hb0 hk0 hb1 hk1
  go_enter Try.func61, Try.ntmps61
  go_wp2_with (first | (go_at_call 23; ((with_reducible refine (Calls.kept_first (c2 _)).mono ?_); rintro e _ ⟨rfl, p, rfl⟩)) | (go_at_call 20; ((with_reducible refine (Calls.kept_of (c1 _)).mono ?_); rintro e _ ⟨rfl, p, rfl⟩)) | (go_at_call 33; ((with_reducible refine (Calls.kept_of (c3 _)).mono ?_); rintro e _ ⟨rfl, p, rfl⟩)) | (go_at_call 37; ((with_reducible refine (Calls.kept_of (c4 _)).mono ?_); rintro e _ ⟨rfl, p, rfl⟩)) | (go_at_call 37; ((with_reducible refine (Calls.kept_of (c5 _)).mono ?_); rintro e _ ⟨rfl, p, rfl⟩)) | fail)
  go_ret
  exact ⟨rfl, by repeat (first | exact HW.out.tr p.since | refine Kp.drew ?_ | refine Kp.alloc ?_ _)⟩

theorem small_words {px py qx qy : Int} (hp : Sm2 (px, py)) (hq : Sm2 (qx, qy)) : crossV px py qx qy = crs0 (px, py) (qx, qy) ∧ dotV px py qx qy = dot0 (px, py) (qx, qy) := by
  unfold Sm2 at hp hq
  simp only at hp hq
  have m1 := abs_mul_le (x := px) (y := qy) (A := 2000) (B := 2000) (by omega) (by omega)
  have m2 := abs_mul_le (x := py) (y := qx) (A := 2000) (B := 2000) (by omega) (by omega)
  have m3 := abs_mul_le (x := px) (y := qx) (A := 2000) (B := 2000) (by omega) (by omega)
  have m4 := abs_mul_le (x := py) (y := qy) (A := 2000) (B := 2000) (by omega) (by omega)
  exact ⟨w64_id ⟨by omega, by omega⟩, w64_id ⟨by omega, by omega⟩⟩

set_option maxRecDepth 100000 in
set_option maxHeartbeats 3200000 in
theorem quarter_any (px py qx qy : Int) (hp : Sm2 (px, py)) (hq : Sm2 (qx, qy)) (w : World) : Calls Try.prog 41 #[vV px py, vV qx qy] w fun e w' => e = .returned (.bool (qtr (px, py) (qx, qy))) ∧ Nw w w' := by
  obtain ⟨e1, e2⟩ := small_words hp hq
  have c1 := fun w1 => cross_any px py qx qy w1
  have c2 := fun w1 => dot_any px py qx qy w1
  rw [e1] at c1
  rw [e2] at c2
  have hres : qtr (px, py) (qx, qy) = (decide (0 < crs0 (px, py) (qx, qy)) && decide (0 ≤ dot0 (px, py) (qx, qy))) := by unfold qtr; simp only [Bool.decide_and]
  rw [hres]
  generalize crs0 (px, py) (qx, qy) = C at *
  generalize dot0 (px, py) (qx, qy) = E at *
  obtain ⟨g1, h1⟩ : ∃ g, decide (0 < C) = g := ⟨_, rfl⟩
  obtain ⟨g2, h2⟩ : ∃ g, decide (0 ≤ E) = g := ⟨_, rfl⟩
  rw [h1, h2]
  have HW := Lib.hid (show Nw w ((w.alloc (.cells #[.int .i64 px, .int .i64 py] 23)).alloc (.cells #[.int .i64 qx, .int .i64 qy] 23)) from (nw_alloc _ _).alloc _)
  clear hres hp hq e1 e2
  have hb0 := Blk.new_at w 23 #[.int .i64 px, .int .i64 py] (n := w.heap.size) (by simp)
  have hb1 := Blk.new_at (w.alloc (.cells #[.int .i64 px, .int .i64 py] 23)) 23 #[.int .i64 qx, .int .i64 qy] (n := w.heap.size + 1) (by simp)
  have hk0 : ∀ p : KeptW ((w.alloc (.cells #[.int .i64 px, .int .i64 py] 23)).alloc (.cells #[.int .i64 qx, .int .i64 qy] 23)), Blk p.wd (w.heap.size) 23 #[.int .i64 px, .int .i64 py] := fun p => (hb0.alloc _).kept p
  have q0 := fun p => (hk0 p).cell 0
  have q1 := fun p => (hk0 p).cell 1
  have hk1 : ∀ p : KeptW ((w.alloc (.cells #[.int .i64 px, .int .i64 py] 23)).alloc (.cells #[.int .i64 qx, .int .i64 qy] 23)), Blk p.wd (w.heap.size + 1) 23 #[.int .i64 qx, .int .i64 qy] := fun p => hb1.kept p
  have q2 := fun p => (hk1 p).cell 0
  have q3 := fun p => (hk1 p).cell 1
  skip
  clear hb0 hk0 hb1 hk1
  cases g1 <;> (go_enter Try.func41, Try.ntmps41; go_wp2_with (first | (go_at_call 59; ((with_reducible refine (Calls.kept_first (c1 _)).mono ?_); rintro e _ ⟨rfl, p, rfl⟩)) | (go_at_call 32; ((with_reducible refine (Calls.kept_of (c2 _)).mono ?_); rintro e _ ⟨rfl, p, rfl⟩)) | fail); go_ret; exact ⟨by first | rfl | simp [h1, h2], by repeat (first | exact HW.out.tr p.since | refine Kp.drew ?_ | refine Kp.alloc ?_ _)⟩)

end Go.Proofs.Ytlogihcmmoldkaa.W

namespace Go.Proofs.Ytlogihcmmoldkaa.W
open Go.RowKit Go.Proofs.Ytlogihcmmoldkaa.V Go.Proofs.Ytlogihcmmoldkaa.A

theorem half_words {x U R : Int} (hx : -4000 ≤ x ∧ x ≤ 4000) (hU : 0 < U) (hR : 0 ≤ R ∧ R ≤ 4000000) :
    ∃ k m : Int, IntKind.i64.wrap (4 * x) = 4 * x ∧ IntKind.i64.wrap (4 * x * x) = 4 * x * x ∧ IntKind.i64.wrap (4 * x * x * R) = 4 * x * x * R ∧ ¬ U = 0 ∧ IntKind.i64.wrap ((4 * x * x * R).tdiv U) = k ∧ I64 k ∧
      IntKind.i64.wrap (isq k + 1) = isq k + 1 ∧ IntKind.i64.wrap ((isq k + 1).tdiv 2) = m ∧ wrap64 (-m) = -m ∧ hlf x U R = if x < 0 then -m else m := by
  have m1 := abs_mul_le (x := x) (y := x) (A := 4000) (B := 4000) hx hx
  have s1 := sqn x
  have m2 := abs_mul_le (x := x * x) (y := R) (A := 16000000) (B := 4000000) (by omega) (by omega)
  have s2 := muln s1 hR.1
  have e1 : 4 * x * x = 4 * (x * x) := Int.mul_assoc _ _ _
  have e2 : 4 * x * x * R = 4 * (x * x * R) := by rw [e1, Int.mul_assoc]
  obtain ⟨N, hN⟩ : ∃ N, 4 * x * x * R = N := ⟨_, rfl⟩
  have N0 : 0 ≤ N ∧ N ≤ 256000000000000 := by omega
  have k0 : 0 ≤ N / U := Int.ediv_nonneg N0.1 (by omega)
  have k1 : N / U ≤ N := Int.ediv_le_self U N0.1
  have r1 := isq_big (n := N / U) (by omega)
  have r0 := isq_nn (N / U)
  refine ⟨N / U, (isq (N / U) + 1) / 2, ?_, ?_, ?_, by omega, ?_, ⟨by omega, by omega⟩, ?_, ?_, ?_, ?_⟩
  · rw [IntKind.wrap_i64]; omega
  · rw [IntKind.wrap_i64]; omega
  · rw [IntKind.wrap_i64]; omega
  · rw [hN, tdiv_pos N0.1, IntKind.wrap_i64]; omega
  · rw [IntKind.wrap_i64]; omega
  · rw [tdiv_pos (by omega), IntKind.wrap_i64]; omega
  · exact w64_id ⟨by omega, by omega⟩
  · unfold hlf
    rw [hN]

set_option maxRecDepth 100000 in
set_option maxHeartbeats 3200000 in
theorem along_any (n ux uy R U : Int) (gr gu : Nat) (hn : -4000 ≤ n ∧ n ≤ 4000) (hR : 0 ≤ R ∧ R ≤ 4000000) (hU : 0 < U) (hd : dotV ux uy ux uy = U) (w : World) (hr : Blk w gr 3 #[.int .i64 R]) (hu : Blk w gu 23 #[.int .i64 ux, .int .i64 uy]) :
    Calls Try.prog 60 #[.int .i64 n, .pointer (some ⟨gr, 0, none⟩), .pointer (some ⟨gu, 0, none⟩)] w fun e w' => e = .returned (.int .i64 (hlf n U R)) ∧ Nw w w' := by
  have hmix := mixed7
  obtain ⟨k, m, b1, b2, b3, z0, b4, ik, b5, b6, b7, hres⟩ := half_words hn hU hR
  rw [hres]
  have c1 := fun w1 => dot_any ux uy ux uy w1
  rw [hd] at c1
  have c2 := fun w1 => root_any k ik w1
  generalize isq k = r at *
  clear hres hU hR ik hd hn
  have q0 := fun p : KeptW w => (hr.kept p).cell 0
  have q1 := fun p : KeptW w => (hu.kept p).cell 0
  have q2 := fun p : KeptW w => (hu.kept p).cell 1
  clear hr hu
  by_cases h : n < 0
  · have e1 : decide (n < 0) = true := decide_eq_true h
    rw [if_pos h]
    clear h
    go_enter Try.func60, Try.ntmps60
    go_upto_region 1 with fail
    refine wp_region_kept (Kp.refl _ _) (by assumption) (by kernel_rfl) ?_
    repeat (with_reducible refine wpQuiet_step (fun K hK => ?_); go_simp; first | ((with_reducible refine hK _ ?_); clear hK K) | (with_reducible apply Exists.intro; (with_reducible refine ⟨fun _ => ?_, hK _ ?_⟩); ((first | (go_at_call 32; with_reducible exact Calls.kept_of (c1 _)) | (go_at_call 19; with_reducible exact Calls.kept_of (c2 _)) | fail)); clear hK K) | (simp only [undef, reduceCtorEq, if_false]; (with_reducible refine hK _ ?_); clear hK K))
    with_reducible refine wpQuiet_nil ?_
    rintro _ ⟨p, rfl⟩
    go_wp2_with fail
    go_ret
    exact ⟨by show Ending.returned (.int .i64 (wrap64 (-m))) = _; rw [b7], by repeat (first | exact p.since | refine Kp.drew ?_)⟩
  · have e1 : decide (n < 0) = false := decide_eq_false h
    rw [if_neg h]
    clear h
    go_enter Try.func60, Try.ntmps60
    go_upto_region 1 with fail
    refine wp_region_kept (Kp.refl _ _) (by assumption) (by kernel_rfl) ?_
    repeat (with_reducible refine wpQuiet_step (fun K hK => ?_); go_simp; first | ((with_reducible refine hK _ ?_); clear hK K) | (with_reducible apply Exists.intro; (with_reducible refine ⟨fun _ => ?_, hK _ ?_⟩); ((first | (go_at_call 32; with_reducible exact Calls.kept_of (c1 _)) | (go_at_call 19; with_reducible exact Calls.kept_of (c2 _)) | fail)); clear hK K) | (simp only [undef, reduceCtorEq, if_false]; (with_reducible refine hK _ ?_); clear hK K))
    with_reducible refine wpQuiet_nil ?_
    rintro _ ⟨p, rfl⟩
    go_wp2_with fail
    go_ret
    exact ⟨rfl, by repeat (first | exact p.since | refine Kp.drew ?_)⟩

set_option maxRecDepth 100000 in
set_option maxHeartbeats 3200000 in
theorem rhalf_any (n U R : Int) (hn : -4000 ≤ n ∧ n ≤ 4000) (hR : 0 ≤ R ∧ R ≤ 4000000) (hU : 0 < U) (w : World) : Calls Try.prog 74 #[.int .i64 n, .int .i64 U, .int .i64 R] w fun e w' => e = .returned (.int .i64 (hlf n U R)) ∧ Nw w w' := by
  obtain ⟨k, m, b1, b2, b3, z0, b4, ik, b5, b6, b7, hres⟩ := half_words hn hU hR
  rw [hres]
  have c2 := fun w1 => rroot_any k ik w1
  generalize isq k = r at *
  clear hres hU hR ik hn
  by_cases h : n < 0
  · have e1 : decide (n < 0) = true := decide_eq_true h
    rw [if_pos h]
    clear h
    go_enter Try.func74, Try.ntmps74
    go_wp2_with (first | (go_at_call 37; ((with_reducible refine (Calls.kept_first (c2 _)).mono ?_); rintro e _ ⟨rfl, p, rfl⟩)) | fail)
    go_ret
    exact ⟨by show Ending.returned (.int .i64 (wrap64 (-m))) = _; rw [b7], by repeat (first | exact p.since | refine Kp.drew ?_)⟩
  · have e1 : decide (n < 0) = false := decide_eq_false h
    rw [if_neg h]
    clear h
    go_enter Try.func74, Try.ntmps74
    go_wp2_with (first | (go_at_call 37; ((with_reducible refine (Calls.kept_first (c2 _)).mono ?_); rintro e _ ⟨rfl, p, rfl⟩)) | fail)
    go_ret
    exact ⟨rfl, by repeat (first | exact p.since | refine Kp.drew ?_)⟩

theorem mid_words {px py qx qy R : Int} (hp : Sm2 (px, py)) (hq : Sm2 (qx, qy)) : w64 (px + qx) = px + qx ∧ w64 (py + qy) = py + qy ∧ dotV (px + qx) (py + qy) (px + qx) (py + qy) = nrm (px + qx, py + qy) ∧ (-4000 ≤ px + qx ∧ px + qx ≤ 4000) ∧ (-4000 ≤ py + qy ∧ py + qy ≤ 4000) ∧
    mid R (px, py) (qx, qy) = (hlf (px + qx) (nrm (px + qx, py + qy)) R, hlf (py + qy) (nrm (px + qx, py + qy)) R) := by
  unfold Sm2 at hp hq
  simp only at hp hq
  have m1 := abs_mul_le (x := px + qx) (y := px + qx) (A := 4000) (B := 4000) (by omega) (by omega)
  have m2 := abs_mul_le (x := py + qy) (y := py + qy) (A := 4000) (B := 4000) (by omega) (by omega)
  exact ⟨w64_id ⟨by omega, by omega⟩, w64_id ⟨by omega, by omega⟩, w64_id ⟨by omega, by omega⟩, by omega, by omega, rfl⟩

set_option maxRecDepth 100000 in
set_option maxHeartbeats 3200000 in
theorem mid_any (px py qx qy R : Int) (hp : Sm2 (px, py)) (hq : Sm2 (qx, qy)) (hR : 0 ≤ R ∧ R ≤ 4000000) (hU : 0 < nrm (px + qx, py + qy)) (w : World) : Calls Try.prog 40 #[vV px py, vV qx qy, .int .i64 R] w fun e w' => e = .returned (vV (mid R (px, py) (qx, qy)).1 (mid R (px, py) (qx, qy)).2) ∧ Nw w w' := by
  have hmix := mixed7
  obtain ⟨e1, e2, e3, e4, e5, hres⟩ := mid_words (R := R) hp hq
  rw [hres]
  have c1 := fun w1 => add_any px py qx qy w1
  rw [e1, e2] at c1
  have c2 := fun gr gu w1 => along_any (px + qx) (px + qx) (py + qy) R _ gr gu e4 hR hU e3 w1
  have c3 := fun gr gu w1 => along_any (py + qy) (px + qx) (py + qy) R _ gr gu e5 hR hU e3 w1
  generalize nrm (px + qx, py + qy) = U at *
  generalize hlf (px + qx) U R = mx at *
  generalize hlf (py + qy) U R = my at *
  generalize px + qx = ux at *
  generalize py + qy = uy at *
  clear hres hp hq hU e1 e2 e4 e5
  obtain ⟨W0, hW0⟩ : ∃ W, ((((w.alloc (.cells #[.int .i64 px, .int .i64 py] 23)).alloc (.cells #[.int .i64 qx, .int .i64 qy] 23)).alloc (.cells #[.int .i64 R] 3)).alloc (.cells #[.int .i64 0, .int .i64 0] 23)) = W := ⟨_, rfl⟩
  have HW := Lib.hid (show Nw w W0 by rw [← hW0]; exact (((nw_alloc _ _).alloc _).alloc _).alloc _)
  have HB0 := Lib.hid (show Blk W0 (w.heap.size) 23 #[.int .i64 px, .int .i64 py] by rw [← hW0]; exact (((Blk.new_at w 23 #[.int .i64 px, .int .i64 py] (n := w.heap.size) (by simp)).alloc _).alloc _).alloc _)
  have HB1 := Lib.hid (show Blk W0 (w.heap.size + 1) 23 #[.int .i64 qx, .int .i64 qy] by rw [← hW0]; exact ((Blk.new_at (w.alloc (.cells #[.int .i64 px, .int .i64 py] 23)) 23 #[.int .i64 qx, .int .i64 qy] (n := w.heap.size + 1) (by simp)).alloc _).alloc _)
  have HB2 := Lib.hid (show Blk W0 (w.heap.size + 1 + 1) 3 #[.int .i64 R] by rw [← hW0]; exact (Blk.new_at ((w.alloc (.cells #[.int .i64 px, .int .i64 py] 23)).alloc (.cells #[.int .i64 qx, .int .i64 qy] 23)) 3 #[.int .i64 R] (n := w.heap.size + 1 + 1) (by simp)).alloc _)
  have HB3 := Lib.hid (show Blk W0 (w.heap.size + 1 + 1 + 1) 23 #[.int .i64 0, .int .i64 0] by rw [← hW0]; exact Blk.new_at (((w.alloc (.cells #[.int .i64 px, .int .i64 py] 23)).alloc (.cells #[.int .i64 qx, .int .i64 qy] 23)).alloc (.cells #[.int .i64 R] 3)) 23 #[.int .i64 0, .int .i64 0] (n := w.heap.size + 1 + 1 + 1) (by simp))
  have m0 := HB0.out.cell 0
  have m1 := HB0.out.cell 1
  have m2 := HB1.out.cell 0
  have m3 := HB1.out.cell 1
  go_enter Try.func40, Try.ntmps40
  go_upto_region 1 with fail
  try rw [hW0]
  clear hW0
  go_upto_region 3 with (first | (go_at_call 29; ((with_reducible refine (Calls.kept_first (c1 _)).mono ?_); rintro e _ ⟨rfl, p, rfl⟩)) | fail)
  have HN1 := Lib.hid p.since
  generalize p.wd = wa at HN1 ⊢
  generalize hw3 : World.alloc _ _ = w3
  obtain ⟨gu, hgu⟩ : ∃ x, wa.heap.size = x := ⟨_, rfl⟩
  have HU := Lib.hid (show Blk w3 gu 23 #[.int .i64 ux, .int .i64 uy] by rw [← hw3, ← hgu]; exact Blk.new _ _ _)
  have HN := Lib.hid (show Nw W0 w3 by rw [← hw3]; exact HN1.out.tr (nw_alloc _ _))
  have HRC := Lib.hid (HB3.out.nwA HN.out)
  have HUR := Lib.hid (show ¬ gu = w.heap.size + 1 + 1 + 1 by have := HN1.out.size; have := HB3.out.lt; omega)
  have HRR := Lib.hid (HB2.out.nwA HN.out)
  try rw [hgu]
  clear hw3 hgu m0 m1 m2 m3
  have HNW := Lib.hid (HW.out.tr HN.out)
  have HGW := Lib.hid (show w.heap.size ≤ w.heap.size + 1 + 1 + 1 by omega)
  have HRN := Lib.hid (show ¬ w.heap.size + 1 + 1 = w.heap.size + 1 + 1 + 1 by omega)
  obtain ⟨rc, hrc⟩ : ∃ x, w.heap.size + 1 + 1 + 1 = x := ⟨_, rfl⟩
  rw [hrc] at HRC HGW HUR HRN
  try rw [hrc]
  obtain ⟨gr, hgr⟩ : ∃ x, w.heap.size + 1 + 1 = x := ⟨_, rfl⟩
  rw [hgr] at HRR HRN
  try rw [hgr]
  clear hrc hgr
  have HP := Lib.hid (show ∀ w', Kp (fun k => k = rc) w3 w' → w'.cell? (⟨gu, 0, none⟩ : Addr) = some (.int .i64 ux) ∧ w'.cell? (⟨gu, 1, none⟩ : Addr) = some (.int .i64 uy) from fun w' h => by
    have a := HU.out.kp h HUR.out
    exact ⟨a.cell 0, a.cell 1⟩)
  go_cut [] from 13 to 21 (fun wx => Blk wx rc 23 #[.int .i64 mx, .int .i64 my] ∧ Nw w wx)
  case first =>
    go_wp2_with fail
    go_region_held3 (fun w' : World => w'.cell? (⟨gu, 0, none⟩ : Addr) = some (.int .i64 ux) ∧ w'.cell? (⟨gu, 1, none⟩ : Addr) = some (.int .i64 uy))
      (first | ((refine HP.out _ ?_); (repeat (first | exact hb3 | exact hb2 | exact hb1 | exact Kp.refl _ _ | refine Kp.alloc ?_ _ | refine Kp.drew ?_ | refine Kp.rcA ?_ _ _))) | fail)
      (first | (go_at_call 60; ((with_reducible refine (c2 gr gu _ (HRR.out.kp (S := fun k => k = rc) (by repeat (first | exact hb3 | exact hb2 | exact hb1 | exact Kp.refl _ _ | refine Kp.alloc ?_ _ | refine Kp.drew ?_ | refine Kp.rcA ?_ _ _)) HRN.out) (HU.out.kp (S := fun k => k = rc) (by repeat (first | exact hb3 | exact hb2 | exact hb1 | exact Kp.refl _ _ | refine Kp.alloc ?_ _ | refine Kp.drew ?_ | refine Kp.rcA ?_ _ _)) HUR.out)).mono ?_); rintro e u1 ⟨rfl, hk1⟩; have hn1 : Nw w3 u1 := Kp.tr (by repeat (first | exact hn3 | exact hn2 | exact hn1 | exact Kp.refl _ _ | refine Kp.alloc ?_ _ | refine Kp.drew ?_)) hk1; have hb1 : Kp (fun k => k = rc) w3 u1 := Nw.kp hn1)) | (go_at_call 60; ((with_reducible refine (c3 gr gu _ (HRR.out.kp (S := fun k => k = rc) (by repeat (first | exact hb3 | exact hb2 | exact hb1 | exact Kp.refl _ _ | refine Kp.alloc ?_ _ | refine Kp.drew ?_ | refine Kp.rcA ?_ _ _)) HRN.out) (HU.out.kp (S := fun k => k = rc) (by repeat (first | exact hb3 | exact hb2 | exact hb1 | exact Kp.refl _ _ | refine Kp.alloc ?_ _ | refine Kp.drew ?_ | refine Kp.rcA ?_ _ _)) HUR.out)).mono ?_); rintro e u2 ⟨rfl, hk2⟩; have hn2 : Nw w3 u2 := Kp.tr (by repeat (first | exact hn3 | exact hn2 | exact hn1 | exact Kp.refl _ _ | refine Kp.alloc ?_ _ | refine Kp.drew ?_)) hk2; have hb2 : Kp (fun k => k = rc) w3 u2 := Nw.kp hn2; have y := HRC.out.nwA hn2; have t1 := y.cell 0; have t2 := y.cell 1; have t3 := y.frozen 0; have t4 := y.frozen 1)))
    all_goals (go_wp2_with fail; go_meet; case rel => exact ⟨(HRC.out.nwA hn2).lay2 _ _, (HNW.out.tr hn2).newA HGW.out _ _⟩)
  case rest =>
    obtain ⟨b, hn⟩ := hcut
    have x0 := b.cell 0
    have x1 := b.cell 1
    go_wp2_with fail
    exact bodyPost_ret (v := vV mx my) (by simp [results, Try.results40, go_sem, x0, x1]) rfl ⟨rfl, hn⟩

set_option maxRecDepth 100000 in
set_option maxHeartbeats 3200000 in
theorem rmid_any (px py qx qy R : Int) (hp : Sm2 (px, py)) (hq : Sm2 (qx, qy)) (hR : 0 ≤ R ∧ R ≤ 4000000) (hU : 0 < nrm (px + qx, py + qy)) (w : World) : Calls Try.prog 62 #[vV px py, vV qx qy, .int .i64 R] w fun e w' => e = .returned (vV (mid R (px, py) (qx, qy)).1 (mid R (px, py) (qx, qy)).2) ∧ Nw w w' := by
  have hmix := mixed7
  obtain ⟨e1, e2, e3, e4, e5, hres⟩ := mid_words (R := R) hp hq
  rw [hres]
  have c1 := fun w1 => radd_any px py qx qy w1
  rw [e1, e2] at c1
  have c0 := fun w1 => square_any (px + qx) (py + qy) _ e3 w1
  have c2 := fun w1 => rhalf_any (px + qx) _ R e4 hR hU w1
  have c3 := fun w1 => rhalf_any (py + qy) _ R e5 hR hU w1
  clear e3
  generalize nrm (px + qx, py + qy) = U at *
  generalize hlf (px + qx) U R = mx at *
  generalize hlf (py + qy) U R = my at *
  generalize px + qx = ux at *
  generalize py + qy = uy at *
  clear hres hp hq hU e1 e2 e4 e5
  obtain ⟨W0, hW0⟩ : ∃ W, (((w.alloc (.cells #[.int .i64 px, .int .i64 py] 23)).alloc (.cells #[.int .i64 qx, .int .i64 qy] 23)).alloc (.cells #[.int .i64 0, .int .i64 0] 23)) = W := ⟨_, rfl⟩
  have HW := Lib.hid (show Nw w W0 by rw [← hW0]; exact ((nw_alloc _ _).alloc _).alloc _)
  have HB0 := Lib.hid (show Blk W0 (w.heap.size) 23 #[.int .i64 px, .int .i64 py] by rw [← hW0]; exact ((Blk.new_at w 23 #[.int .i64 px, .int .i64 py] (n := w.heap.size) (by simp)).alloc _).alloc _)
  have HB1 := Lib.hid (show Blk W0 (w.heap.size + 1) 23 #[.int .i64 qx, .int .i64 qy] by rw [← hW0]; exact (Blk.new_at (w.alloc (.cells #[.int .i64 px, .int .i64 py] 23)) 23 #[.int .i64 qx, .int .i64 qy] (n := w.heap.size + 1) (by simp)).alloc _)
  have HB2 := Lib.hid (show Blk W0 (w.heap.size + 1 + 1) 23 #[.int .i64 0, .int .i64 0] by rw [← hW0]; exact Blk.new_at ((w.alloc (.cells #[.int .i64 px, .int .i64 py] 23)).alloc (.cells #[.int .i64 qx, .int .i64 qy] 23)) 23 #[.int .i64 0, .int .i64 0] (n := w.heap.size + 1 + 1) (by simp))
  have m0 := HB0.out.cell 0
  have m1 := HB0.out.cell 1
  have m2 := HB1.out.cell 0
  have m3 := HB1.out.cell 1
  go_enter Try.func62, Try.ntmps62
  go_upto_region 1 with fail
  try rw [hW0]
  clear hW0
  go_upto_region 2 with (first | (go_at_call 25; ((with_reducible refine (Calls.kept_first (c1 _)).mono ?_); rintro e _ ⟨rfl, p, rfl⟩)) | fail)
  have HN1 := Lib.hid p.since
  generalize p.wd = wa at HN1 ⊢
  generalize hw3 : World.alloc _ _ = w3
  obtain ⟨gu, hgu⟩ : ∃ x, wa.heap.size = x := ⟨_, rfl⟩
  have HU := Lib.hid (show Blk w3 gu 23 #[.int .i64 ux, .int .i64 uy] by rw [← hw3, ← hgu]; exact Blk.new _ _ _)
  have HN := Lib.hid (show Nw W0 w3 by rw [← hw3]; exact HN1.out.tr (nw_alloc _ _))
  have HRC := Lib.hid (HB2.out.nwA HN.out)
  have HUR := Lib.hid (show ¬ gu = w.heap.size + 1 + 1 by have := HN1.out.size; have := HB2.out.lt; omega)
  skip
  try rw [hgu]
  clear hw3 hgu m0 m1 m2 m3
  have HNW := Lib.hid (HW.out.tr HN.out)
  have HGW := Lib.hid (show w.heap.size ≤ w.heap.size + 1 + 1 by omega)
  skip
  obtain ⟨rc, hrc⟩ : ∃ x, w.heap.size + 1 + 1 = x := ⟨_, rfl⟩
  rw [hrc] at HRC HGW HUR
  try rw [hrc]
  clear hrc
  have HP := Lib.hid (show ∀ w', Kp (fun k => k = rc) w3 w' → w'.cell? (⟨gu, 0, none⟩ : Addr) = some (.int .i64 ux) ∧ w'.cell? (⟨gu, 1, none⟩ : Addr) = some (.int .i64 uy) from fun w' h => by
    have a := HU.out.kp h HUR.out
    exact ⟨a.cell 0, a.cell 1⟩)
  go_cut [] from 11 to 23 (fun wx => Blk wx rc 23 #[.int .i64 mx, .int .i64 my] ∧ Nw w wx)
  case first =>
    go_wp2_with fail
    go_region_held3 (fun w' : World => w'.cell? (⟨gu, 0, none⟩ : Addr) = some (.int .i64 ux) ∧ w'.cell? (⟨gu, 1, none⟩ : Addr) = some (.int .i64 uy))
      (first | ((refine HP.out _ ?_); (repeat (first | exact hb3 | exact hb2 | exact hb1 | exact Kp.refl _ _ | refine Kp.alloc ?_ _ | refine Kp.drew ?_ | refine Kp.rcA ?_ _ _))) | fail)
      (first | (go_at_call 74; ((with_reducible refine (c2 _).mono ?_); rintro e u1 ⟨rfl, hk1⟩; have hn1 : Nw w3 u1 := Kp.tr (by repeat (first | exact hn3 | exact hn2 | exact hn1 | exact Kp.refl _ _ | refine Kp.alloc ?_ _ | refine Kp.drew ?_)) hk1; have hb1 : Kp (fun k => k = rc) w3 u1 := Nw.kp hn1)) | (go_at_call 74; ((with_reducible refine (c3 _).mono ?_); rintro e u2 ⟨rfl, hk2⟩; have hn2 : Nw w3 u2 := Kp.tr (by repeat (first | exact hn3 | exact hn2 | exact hn1 | exact Kp.refl _ _ | refine Kp.alloc ?_ _ | refine Kp.drew ?_)) hk2; have hb2 : Kp (fun k => k = rc) w3 u2 := Nw.kp hn2; have y := HRC.out.nwA hn2; have t1 := y.cell 0; have t2 := y.cell 1; have t3 := y.frozen 0; have t4 := y.frozen 1)) | (go_at_call 33; ((with_reducible refine (c0 _).mono ?_); rintro e u3 ⟨rfl, hk3⟩; have hn3 : Nw w3 u3 := Kp.tr (by repeat (first | exact hn3 | exact hn2 | exact hn1 | exact Kp.refl _ _ | refine Kp.alloc ?_ _ | refine Kp.drew ?_)) hk3; have hb3 : Kp (fun k => k = rc) w3 u3 := Nw.kp hn3)))
    all_goals (go_wp2_with fail; go_meet; case rel => exact ⟨(HRC.out.nwA hn2).lay2 _ _, (HNW.out.tr hn2).newA HGW.out _ _⟩)
  case rest =>
    obtain ⟨b, hn⟩ := hcut
    have x0 := b.cell 0
    have x1 := b.cell 1
    go_wp2_with fail
    exact bodyPost_ret (v := vV mx my) (by simp [results, Try.results62, go_sem, x0, x1]) rfl ⟨rfl, hn⟩

end Go.Proofs.Ytlogihcmmoldkaa.W

namespace Go.Proofs.Ytlogihcmmoldkaa.W
open Go.RowKit Go.Proofs.Ytlogihcmmoldkaa.V

def cf (x y : Int × Int) : Int := cmpV x.1 x.2 y.1 y.2
theorem lt_cf (x y : Int × Int) : ltOf cf x y = lessV x.1 x.2 y.1 y.2 := (less_cmp _ _ _ _).symm
theorem cf_swo : Sort.SWO (ltOf cf) where
  irrefl x := by rw [lt_cf]; unfold lessV; simp
  trans x y z h1 h2 := by rw [lt_cf] at *; unfold lessV at *; simp at *; omega
  ntrans x y z h1 h2 := by rw [lt_cf] at *; unfold lessV at *; simp at *; omega
theorem cf_total (x y : Int × Int) (h1 : ltOf cf x y = false) (h2 : ltOf cf y x = false) : x = y := by
  rw [lt_cf] at h1 h2
  unfold lessV at h1 h2
  obtain ⟨a, b⟩ := x
  obtain ⟨c, d⟩ := y
  simp at h1 h2
  have : a = c ∧ b = d := by omega
  rw [this.1, this.2]
/-- the list in ascending order -/
def sortV (l : List (Int × Int)) : List (Int × Int) := l.mergeSort fun x y => !(ltOf cf) y x
theorem sortV_len (l : List (Int × Int)) : (sortV l).length = l.length := List.length_mergeSort l

theorem kp_sort (w : World) (g off m : Nat) (d : Array (Int × Int)) (os : Array Obj) : Kp (fun b => b = g) w (sortWorldK vC 2 w g off m d os) := by
  refine ⟨rfl, rfl, rfl, size_sortWorldK_c vC 2 w g off m d os, fun i hi hne => ?_⟩
  unfold sortWorldK Sort.putRowK
  rw [Sort.heap_grow_old _ _ (by rw [Sort.size_putRow]; exact hi)]
  show (w.heap.modify g _)[i]? = _
  rw [Array.getElem?_modify]
  simp [Ne.symm hne]

theorem cmpLays (blk off size : Nat) (w : World) : CmpLays Try.prog 68 #[] vC 2 cf blk off size w :=
  fun _ _ _ _ x y => compare_any x.1 x.2 y.1 y.2 _

end Go.Proofs.Ytlogihcmmoldkaa.W
