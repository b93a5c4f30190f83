/-
  seg: crossing: the point at which two segments cross, in lowest terms. Conditions: the coordinates are within 4000, the segments are not parallel.
-/
import Derived.Test.YtahamffngmdjfaaGS9
import Derived.Deep.RegionHeld3
import Derived.Deep.CutRange
namespace Go.Proofs.Ytahamffngmdjfaa.W
open Go.RowKit Go.Proofs.Ytahamffngmdjfaa.V Go.Proofs.Ytahamffngmdjfaa.G

def crossX (ax ay bx bz cx cy dx dy : Int) : Int := ax * denX ax ay bx bz cx cy dx dy + (bx - ax) * numX ax ay cx cy dx dy
def crossY (ax ay bx bz cx cy dx dy : Int) : Int := ay * denX ax ay bx bz cx cy dx dy + (bz - ay) * numX ax ay cx cy dx dy
def crossS (ax ay bx bz cx cy dx dy : Int) : Int × Int × Int := if denX ax ay bx bz cx cy dx dy < 0 then lowV (-crossX ax ay bx bz cx cy dx dy) (-crossY ax ay bx bz cx cy dx dy) (-denX ax ay bx bz cx cy dx dy) else lowV (crossX ax ay bx bz cx cy dx dy) (crossY ax ay bx bz cx cy dx dy) (denX ax ay bx bz cx cy dx dy)
theorem Blk.nw {w w' : World} {g : Nat} {t : TypeId} {cs : Array Value} (h : Blk w g t cs) (hk : Nw w w') : Blk w' g t cs := h.kp hk id
theorem abs_le_mul {x y A B : Int} (hx : -A ≤ x ∧ x ≤ A) (hy : -B ≤ y ∧ y ≤ B) : -(A * B) ≤ x * y ∧ x * y ≤ A * B := by
  have h := Nat.mul_le_mul (show x.natAbs ≤ A.natAbs by omega) (show y.natAbs ≤ B.natAbs by omega)
  rw [← Int.natAbs_mul, ← Int.natAbs_mul] at h
  have hp := Int.mul_nonneg (show 0 ≤ A by omega) (show 0 ≤ B by omega)
  omega
theorem den_le {ax ay bx bz cx cy dx dy : Int} (ha : Lm ax ay) (hb : Lm bx bz) (hc : Lm cx cy) (hd : Lm dx dy) : (-128000000 ≤ denX ax ay bx bz cx cy dx dy ∧ denX ax ay bx bz cx cy dx dy ≤ 128000000) ∧ (-128000000 ≤ numX ax ay cx cy dx dy ∧ numX ax ay cx cy dx dy ≤ 128000000) := by
  unfold Lm at ha hb hc hd
  unfold denX numX
  have h1 := abs_le_mul (x := bx - ax) (y := dy - cy) (A := 8000) (B := 8000) (by omega) (by omega)
  have h2 := abs_le_mul (x := bz - ay) (y := dx - cx) (A := 8000) (B := 8000) (by omega) (by omega)
  have h3 := abs_le_mul (x := cx - ax) (y := dy - cy) (A := 8000) (B := 8000) (by omega) (by omega)
  have h4 := abs_le_mul (x := cy - ay) (y := dx - cx) (A := 8000) (B := 8000) (by omega) (by omega)
  omega
theorem cross_le {ax ay bx bz cx cy dx dy : Int} (ha : Lm ax ay) (hb : Lm bx bz) (hc : Lm cx cy) (hd : Lm dx dy) : (-1536000000000 ≤ crossX ax ay bx bz cx cy dx dy ∧ crossX ax ay bx bz cx cy dx dy ≤ 1536000000000) ∧ (-1536000000000 ≤ crossY ax ay bx bz cx cy dx dy ∧ crossY ax ay bx bz cx cy dx dy ≤ 1536000000000) := by
  obtain ⟨h1, h2⟩ := den_le ha hb hc hd
  unfold Lm at ha hb hc hd
  unfold crossX crossY
  have g1 := abs_le_mul (x := ax) (A := 4000) (by omega) h1
  have g2 := abs_le_mul (x := ay) (A := 4000) (by omega) h1
  have g3 := abs_le_mul (x := bx - ax) (A := 8000) (by omega) h2
  have g4 := abs_le_mul (x := bz - ay) (A := 8000) (by omega) h2
  omega

theorem Blk.far2 {w : World} {g k : Nat} {t : TypeId} {cs : Array Value} (h : Blk w g t cs) (hne : g ≠ k) (x y : Value) : Blk ((w.setCell ⟨k, 0, none⟩ x).setCell ⟨k, 1, none⟩ y) g t cs := (h.far (p := ⟨k, 0, none⟩) hne x).far (p := ⟨k, 1, none⟩) hne y
theorem Kp.new2 {Q : Nat → Prop} {a w : World} (h : Kp Q a w) {b : Nat} (hb : a.heap.size ≤ b) (x y : Value) : Kp Q a ((w.setCell ⟨b, 0, none⟩ x).setCell ⟨b, 1, none⟩ y) := (h.new hb 0 x).new hb 1 y
/-- two vectors in boxes of their own, and nothing else has changed -/
def Rel2 (x1 y1 x2 y2 : Int) (w0 : World) (px py : Value) (wx : World) : Prop := ∃ BX BY, px = .pointer (some ⟨BX, 0, none⟩) ∧ py = .pointer (some ⟨BY, 0, none⟩) ∧ Blk wx BX 23 #[.int .i64 x1, .int .i64 y1] ∧ Blk wx BY 23 #[.int .i64 x2, .int .i64 y2] ∧ Nw w0 wx
section
variable {x1 y1 x2 y2 : Int} {w0 w5 : World} {u v u' v' : Value} (hk : Nw w0 w5)
include hk
theorem two1 : Rel2 x1 y1 x2 y2 w0 (.pointer (some ⟨w5.heap.size, 0, none⟩)) (.pointer (some ⟨w5.heap.size + 1, 0, none⟩)) ((w5.alloc (.cells #[.int .i64 x1, .int .i64 y1] 23)).alloc (.cells #[.int .i64 x2, .int .i64 y2] 23)) :=
  ⟨_, _, rfl, rfl, (Blk.new _ _ _).alloc _, Blk.new_at _ _ _ (by simp), hk.tr ((nw_alloc w5 _).alloc _)⟩
theorem two2 : Rel2 x1 y1 x2 y2 w0 (.pointer (some ⟨w5.heap.size + 1, 0, none⟩)) (.pointer (some ⟨w5.heap.size, 0, none⟩)) ((w5.alloc (.cells #[.int .i64 x2, .int .i64 y2] 23)).alloc (.cells #[.int .i64 x1, .int .i64 y1] 23)) :=
  ⟨_, _, rfl, rfl, Blk.new_at _ _ _ (by simp), (Blk.new _ _ _).alloc _, hk.tr ((nw_alloc w5 _).alloc _)⟩
theorem two4 {h1 h2 : Nat} (b1 : Blk w5 h1 23 #[u, v]) (b2 : Blk w5 h2 23 #[u', v']) (hne : h1 ≠ h2) (s1 : w0.heap.size ≤ h1) (s2 : w0.heap.size ≤ h2) : Rel2 x1 y1 x2 y2 w0 (.pointer (some ⟨h1, 0, none⟩)) (.pointer (some ⟨h2, 0, none⟩)) ((((w5.setCell ⟨h1, 0, none⟩ (.int .i64 x1)).setCell ⟨h1, 1, none⟩ (.int .i64 y1)).setCell ⟨h2, 0, none⟩ (.int .i64 x2)).setCell ⟨h2, 1, none⟩ (.int .i64 y2)) :=
  ⟨_, _, rfl, rfl, (b1.lay2 _ _).far2 hne _ _, (b2.far2 (Ne.symm hne) _ _).lay2 _ _, (hk.new2 s1 _ _).new2 s2 _ _⟩
theorem two5 {h2 : Nat} (b2 : Blk w5 h2 23 #[u', v']) (s2 : w0.heap.size ≤ h2) : Rel2 x1 y1 x2 y2 w0 (.pointer (some ⟨w5.heap.size, 0, none⟩)) (.pointer (some ⟨h2, 0, none⟩)) (((w5.alloc (.cells #[.int .i64 x1, .int .i64 y1] 23)).setCell ⟨h2, 0, none⟩ (.int .i64 x2)).setCell ⟨h2, 1, none⟩ (.int .i64 y2)) :=
  ⟨_, _, rfl, rfl, (Blk.new _ _ _).far2 (Nat.ne_of_gt b2.lt) _ _, (b2.alloc _).lay2 _ _, (hk.alloc _).new2 s2 _ _⟩
theorem two3 {h1 : Nat} (b1 : Blk w5 h1 23 #[u, v]) (s1 : w0.heap.size ≤ h1) : Rel2 x1 y1 x2 y2 w0 (.pointer (some ⟨h1, 0, none⟩)) (.pointer (some ⟨w5.heap.size, 0, none⟩)) (((((w5.alloc (.cells #[.int .i64 0, .int .i64 0] 23)).setCell ⟨h1, 0, none⟩ (.int .i64 x1)).setCell ⟨h1, 1, none⟩ (.int .i64 y1)).setCell ⟨w5.heap.size, 0, none⟩ (.int .i64 x2)).setCell ⟨w5.heap.size, 1, none⟩ (.int .i64 y2)) :=
  two4 (hk.alloc _) (b1.alloc _) (Blk.new w5 _ _) (Nat.ne_of_lt b1.lt) s1 hk.size
end

set_option maxRecDepth 100000 in
set_option maxHeartbeats 6400000 in
theorem crossing_any (ax ay bx bz cx cy dx dy : Int) (ha : Lm ax ay) (hb : Lm bx bz) (hc : Lm cx cy) (hd : Lm dx dy) (h0 : denX ax ay bx bz cx cy dx dy ≠ 0) (w : World) : Calls Try.prog 102 #[sV ax ay bx bz, sV cx cy dx dy] w fun e w' => e = .returned (pV (crossS ax ay bx bz cx cy dx dy).1 (crossS ax ay bx bz cx cy dx dy).2.1 (crossS ax ay bx bz cx cy dx dy).2.2) ∧ Nw w w' := by
  have hmix := mixed7
  have c1 := fun w1 => sub_any bx bz ax ay w1
  have c2 := fun w1 => sub_any dx dy cx cy w1
  have c4 := fun w1 => sub_any cx cy ax ay w1
  obtain ⟨hD, hN⟩ := den_le ha hb hc hd
  obtain ⟨hX, hY⟩ := cross_le ha hb hc hd
  unfold Lm at ha hb hc hd
  rw [w64_id (n := bx - ax) ⟨by omega, by omega⟩, w64_id (n := bz - ay) ⟨by omega, by omega⟩] at c1
  rw [w64_id (n := dx - cx) ⟨by omega, by omega⟩, w64_id (n := dy - cy) ⟨by omega, by omega⟩] at c2
  rw [w64_id (n := cx - ax) ⟨by omega, by omega⟩, w64_id (n := cy - ay) ⟨by omega, by omega⟩] at c4
  have c3 := fun w1 => cross_any (bx - ax) (bz - ay) (dx - cx) (dy - cy) w1
  have c5 := fun w1 => cross_any (cx - ax) (cy - ay) (dx - cx) (dy - cy) w1
  rw [show crossV (bx - ax) (bz - ay) (dx - cx) (dy - cy) = denX ax ay bx bz cx cy dx dy from w64_id ⟨by unfold denX at hD; omega, by unfold denX at hD; omega⟩] at c3
  rw [show crossV (cx - ax) (cy - ay) (dx - cx) (dy - cy) = numX ax ay cx cy dx dy from w64_id ⟨by unfold numX at hN; omega, by unfold numX at hN; omega⟩] at c5
  -- the sign is made positive
  obtain ⟨D, hDD⟩ : ∃ D, denX ax ay bx bz cx cy dx dy = D := ⟨_, rfl⟩
  obtain ⟨N, hNN⟩ : ∃ N, numX ax ay cx cy dx dy = N := ⟨_, rfl⟩
  obtain ⟨D', N', hs⟩ : ∃ D' N', (D < 0 ∧ D' = -D ∧ N' = -N ∨ ¬ D < 0 ∧ D' = D ∧ N' = N) := by
    by_cases h : D < 0
    · exact ⟨-D, -N, .inl ⟨h, rfl, rfl⟩⟩
    · exact ⟨D, N, .inr ⟨h, rfl, rfl⟩⟩
  rw [hDD] at hD h0 c3
  rw [hNN] at hN c5
  have hD' : 0 < D' ∧ D' ≤ 128000000 := by omega
  have g1 := abs_le_mul (x := ax) (A := 4000) (y := D') (B := 128000000) (by omega) (by omega)
  have g2 := abs_le_mul (x := ay) (A := 4000) (y := D') (B := 128000000) (by omega) (by omega)
  have g3 := abs_le_mul (x := bx - ax) (A := 8000) (y := N') (B := 128000000) (by omega) (by omega)
  have g4 := abs_le_mul (x := bz - ay) (A := 8000) (y := N') (B := 128000000) (by omega) (by omega)
  have c6 := fun w1 => scale_any ax ay D' w1
  have c7 := fun w1 => scale_any (bx - ax) (bz - ay) N' w1
  rw [Int.mul_comm D' ax, Int.mul_comm D' ay, w64_id (n := ax * D') ⟨by omega, by omega⟩, w64_id (n := ay * D') ⟨by omega, by omega⟩] at c6
  rw [Int.mul_comm N' (bx - ax), Int.mul_comm N' (bz - ay), w64_id (n := (bx - ax) * N') ⟨by omega, by omega⟩, w64_id (n := (bz - ay) * N') ⟨by omega, by omega⟩] at c7
  have c8 := fun w1 => add_any (ax * D') (ay * D') ((bx - ax) * N') ((bz - ay) * N') w1
  rw [w64_id (n := ax * D' + (bx - ax) * N') ⟨by omega, by omega⟩, w64_id (n := ay * D' + (bz - ay) * N') ⟨by omega, by omega⟩] at c8
  have c9 := fun w1 => lowest_any (ax * D' + (bx - ax) * N') (ay * D' + (bz - ay) * N') D' (by omega) (by omega) (by omega) (by omega) w1
  have hres : lowV (ax * D' + (bx - ax) * N') (ay * D' + (bz - ay) * N') D' = crossS ax ay bx bz cx cy dx dy := by
    unfold crossS crossX crossY
    rw [hDD, hNN]
    rcases hs with ⟨h, rfl, rfl⟩ | ⟨h, rfl, rfl⟩
    · rw [if_pos h, Int.mul_neg, Int.mul_neg, Int.mul_neg, Int.mul_neg, ← Int.neg_add, ← Int.neg_add]
    · rw [if_neg h]
  rw [hres] at c9
  have e1 : decide (D < 0) = decide (D < 0) := rfl
  clear hDD hNN hres g1 g2 g3 g4 hX hY
  have HSG := Lib.hid hs
  have HRG := Lib.hid (And.intro hD hN)
  clear hs hD hN hD' h0 ha hb hc hd e1
  generalize crossS ax ay bx bz cx cy dx dy = cs at *
  obtain ⟨r1, r2, r3⟩ := cs
  generalize bx - ax = x1 at *
  generalize bz - ay = y1 at *
  generalize dx - cx = x2 at *
  generalize dy - cy = y2 at *
  generalize cx - ax = x3 at *
  generalize cy - ay = y3 at *
  generalize ax * D' + x1 * N' = X at *
  generalize ay * D' + y1 * N' = Y at *
  generalize ax * D' = ad at *
  generalize ay * D' = yd at *
  generalize x1 * N' = xn at *
  generalize y1 * N' = yn at *
  have hF : ∀ w', Nw (((w.alloc (.cells #[.int .i64 ax, .int .i64 ay, .int .i64 bx, .int .i64 bz] 48)).alloc (.cells #[.int .i64 cx, .int .i64 cy, .int .i64 dx, .int .i64 dy] 48)).alloc (.cells #[.int .i64 0, .int .i64 0, .int .i64 0] 50)) w' → Blk w' w.heap.size 48 #[.int .i64 ax, .int .i64 ay, .int .i64 bx, .int .i64 bz] ∧ Blk w' (w.heap.size + 1) 48 #[.int .i64 cx, .int .i64 cy, .int .i64 dx, .int .i64 dy] ∧ Blk w' (w.heap.size + 1 + 1) 50 #[.int .i64 0, .int .i64 0, .int .i64 0] := fun w' h => ⟨(((Blk.new_at w 48 #[.int .i64 ax, .int .i64 ay, .int .i64 bx, .int .i64 bz] (n := w.heap.size) rfl).alloc _).alloc _).kp h id, ((Blk.new_at _ 48 #[.int .i64 cx, .int .i64 cy, .int .i64 dx, .int .i64 dy] (n := w.heap.size + 1) (by simp)).alloc _).kp h id, (Blk.new_at _ 50 #[.int .i64 0, .int .i64 0, .int .i64 0] (n := w.heap.size + 1 + 1) (by simp)).kp h id⟩
  have HF := Lib.hid hF
  have HP := Lib.hid (show ∀ w', Nw (((w.alloc (.cells #[.int .i64 ax, .int .i64 ay, .int .i64 bx, .int .i64 bz] 48)).alloc (.cells #[.int .i64 cx, .int .i64 cy, .int .i64 dx, .int .i64 dy] 48)).alloc (.cells #[.int .i64 0, .int .i64 0, .int .i64 0] 50)) w' → w'.cell? (⟨w.heap.size, 0, none⟩ : Addr) = some (.int .i64 ax) ∧ w'.cell? (⟨w.heap.size, 1, none⟩ : Addr) = some (.int .i64 ay) ∧ w'.cell? (⟨w.heap.size, 2, none⟩ : Addr) = some (.int .i64 bx) ∧ w'.cell? (⟨w.heap.size, 3, none⟩ : Addr) = some (.int .i64 bz) ∧ w'.cell? (⟨w.heap.size + 1, 0, none⟩ : Addr) = some (.int .i64 cx) ∧ w'.cell? (⟨w.heap.size + 1, 1, none⟩ : Addr) = some (.int .i64 cy) ∧ w'.cell? (⟨w.heap.size + 1, 2, none⟩ : Addr) = some (.int .i64 dx) ∧ w'.cell? (⟨w.heap.size + 1, 3, none⟩ : Addr) = some (.int .i64 dy) from fun w' h => by
    obtain ⟨a, b, _⟩ := hF w' h
    exact ⟨a.cell 0, a.cell 1, a.cell 2, a.cell 3, b.cell 0, b.cell 1, b.cell 2, b.cell 3⟩)
  have HW := Lib.hid (show Nw w (((w.alloc (.cells #[.int .i64 ax, .int .i64 ay, .int .i64 bx, .int .i64 bz] 48)).alloc (.cells #[.int .i64 cx, .int .i64 cy, .int .i64 dx, .int .i64 dy] 48)).alloc (.cells #[.int .i64 0, .int .i64 0, .int .i64 0] 50)) from ((nw_alloc _ _).alloc _).alloc _)
  have HRL := Lib.hid (show w.heap.size ≤ w.heap.size + 1 + 1 from by omega)
  clear hF
  go_enter Try.func102, Try.ntmps102
  go_upto_region 1 with fail
  generalize hw3 : (((w.alloc (.cells #[.int .i64 ax, .int .i64 ay, .int .i64 bx, .int .i64 bz] 48)).alloc (.cells #[.int .i64 cx, .int .i64 cy, .int .i64 dx, .int .i64 dy] 48)).alloc (.cells #[.int .i64 0, .int .i64 0, .int .i64 0] 50)) = w3 at HP HW HF ⊢
  clear hw3
  go_cut [5, 6] from 10 to 20 (fun p5 p6 wx => Rel2 (x1) (y1) (x2) (y2) w3 p5 p6 wx)
  case first =>
    go_wp2_with fail
    go_region_held3 (fun w' : World => w'.cell? (⟨w.heap.size, 0, none⟩ : Addr) = some (.int .i64 ax) ∧ w'.cell? (⟨w.heap.size, 1, none⟩ : Addr) = some (.int .i64 ay) ∧ w'.cell? (⟨w.heap.size, 2, none⟩ : Addr) = some (.int .i64 bx) ∧ w'.cell? (⟨w.heap.size, 3, none⟩ : Addr) = some (.int .i64 bz) ∧ w'.cell? (⟨w.heap.size + 1, 0, none⟩ : Addr) = some (.int .i64 cx) ∧ w'.cell? (⟨w.heap.size + 1, 1, none⟩ : Addr) = some (.int .i64 cy) ∧ w'.cell? (⟨w.heap.size + 1, 2, none⟩ : Addr) = some (.int .i64 dx) ∧ w'.cell? (⟨w.heap.size + 1, 3, none⟩ : Addr) = some (.int .i64 dy))
      (first | ((refine HP.out _ ?_); (repeat (first | exact hb2 | exact hb1 | exact Kp.refl _ _ | refine Kp.alloc ?_ _ | refine Kp.drew ?_ | refine Kp.new ?_ (by omega) _ _))) | fail)
      (first | (go_at_call 24; ((with_reducible refine (c1 _).mono ?_); rintro e u1 ⟨rfl, hk1⟩; have hb1 : Nw w3 u1 := Kp.tr (by repeat (first | exact hb2 | exact hb1 | exact Kp.refl _ _ | refine Kp.alloc ?_ _ | refine Kp.drew ?_ | refine Kp.new ?_ (by omega) _ _)) hk1; have l1 := hb1.size; with_reducible (first | (have p1 := Blk.nw (Blk.drew (Blk.new_at _ 23 #[.int .i64 0, .int .i64 0] (n := w3.heap.size + 1) (by simp))) hk1; have p0 := Blk.nw (Blk.drew (Blk.alloc (Blk.new_at _ 23 #[.int .i64 0, .int .i64 0] (n := w3.heap.size) (by simp)) _)) hk1; have t1 := (p0).cell 0; have t2 := (p0).cell 1; have t3 := (p0).frozen 0; have t4 := (p0).frozen 1; have t5 := Nat.ne_of_lt p0.lt; have t6 := Ne.symm (Nat.ne_of_lt p0.lt); have t1 := (p1).cell 0; have t2 := (p1).cell 1; have t3 := (p1).frozen 0; have t4 := (p1).frozen 1; have t5 := Nat.ne_of_lt p1.lt; have t6 := Ne.symm (Nat.ne_of_lt p1.lt)) | (have p0 := Blk.nw (Blk.drew (Blk.new_at _ 23 #[.int .i64 0, .int .i64 0] (n := w3.heap.size) (by simp))) hk1; have t1 := (p0).cell 0; have t2 := (p0).cell 1; have t3 := (p0).frozen 0; have t4 := (p0).frozen 1; have t5 := Nat.ne_of_lt p0.lt; have t6 := Ne.symm (Nat.ne_of_lt p0.lt)) | skip))) | (go_at_call 24; ((with_reducible refine (c2 _).mono ?_); rintro e u2 ⟨rfl, hk2⟩; have hb2 : Nw w3 u2 := Kp.tr (by repeat (first | exact hb2 | exact hb1 | exact Kp.refl _ _ | refine Kp.alloc ?_ _ | refine Kp.drew ?_ | refine Kp.new ?_ (by omega) _ _)) hk2; have l2 := hb2.size; with_reducible (first | (have t := p1; have rr1 := Blk.nw p1 hk2; have rr0 := Blk.nw p0 hk2; have t1 := (rr0).cell 0; have t2 := (rr0).cell 1; have t3 := (rr0).frozen 0; have t4 := (rr0).frozen 1; have t5 := Nat.ne_of_lt rr0.lt; have t6 := Ne.symm (Nat.ne_of_lt rr0.lt); have t1 := (rr1).cell 0; have t2 := (rr1).cell 1; have t3 := (rr1).frozen 0; have t4 := (rr1).frozen 1; have t5 := Nat.ne_of_lt rr1.lt; have t6 := Ne.symm (Nat.ne_of_lt rr1.lt)) | (have t := p0; have rr0 := Blk.nw (Blk.alloc p0 _) hk2; have o0 := Blk.nw (Blk.new_at _ 23 #[.int .i64 0, .int .i64 0] (n := u1.heap.size) (by simp)) hk2; have t1 := (rr0).cell 0; have t2 := (rr0).cell 1; have t3 := (rr0).frozen 0; have t4 := (rr0).frozen 1; have t5 := Nat.ne_of_lt rr0.lt; have t6 := Ne.symm (Nat.ne_of_lt rr0.lt); have t1 := (o0).cell 0; have t2 := (o0).cell 1; have t3 := (o0).frozen 0; have t4 := (o0).frozen 1; have t5 := Nat.ne_of_lt o0.lt; have t6 := Ne.symm (Nat.ne_of_lt o0.lt)) | (have t := p0; have rr0 := Blk.nw p0 hk2; have t1 := (rr0).cell 0; have t2 := (rr0).cell 1; have t3 := (rr0).frozen 0; have t4 := (rr0).frozen 1; have t5 := Nat.ne_of_lt rr0.lt; have t6 := Ne.symm (Nat.ne_of_lt rr0.lt); have t1 := (rr0.alloc (.cells #[.int .i64 0, .int .i64 0] 23)).cell 0; have t2 := (rr0.alloc (.cells #[.int .i64 0, .int .i64 0] 23)).cell 1; have t3 := (rr0.alloc (.cells #[.int .i64 0, .int .i64 0] 23)).frozen 0; have t4 := (rr0.alloc (.cells #[.int .i64 0, .int .i64 0] 23)).frozen 1; have t1 := (rr0.alloc (.cells #[.int .i64 x1, .int .i64 y1] 23)).cell 0; have t2 := (rr0.alloc (.cells #[.int .i64 x1, .int .i64 y1] 23)).cell 1; have t3 := (rr0.alloc (.cells #[.int .i64 x1, .int .i64 y1] 23)).frozen 0; have t4 := (rr0.alloc (.cells #[.int .i64 x1, .int .i64 y1] 23)).frozen 1) | (have o1 := Blk.nw (Blk.new_at _ 23 #[.int .i64 0, .int .i64 0] (n := u1.heap.size + 1) (by simp)) hk2; have o0 := Blk.nw (Blk.alloc (Blk.new_at _ 23 #[.int .i64 0, .int .i64 0] (n := u1.heap.size) (by simp)) _) hk2; have t1 := (o0).cell 0; have t2 := (o0).cell 1; have t3 := (o0).frozen 0; have t4 := (o0).frozen 1; have t5 := Nat.ne_of_lt o0.lt; have t6 := Ne.symm (Nat.ne_of_lt o0.lt); have t1 := (o1).cell 0; have t2 := (o1).cell 1; have t3 := (o1).frozen 0; have t4 := (o1).frozen 1; have t5 := Nat.ne_of_lt o1.lt; have t6 := Ne.symm (Nat.ne_of_lt o1.lt)) | (have o0 := Blk.nw (Blk.new_at _ 23 #[.int .i64 0, .int .i64 0] (n := u1.heap.size) (by simp)) hk2; have t1 := (o0).cell 0; have t2 := (o0).cell 1; have t3 := (o0).frozen 0; have t4 := (o0).frozen 1; have t5 := Nat.ne_of_lt o0.lt; have t6 := Ne.symm (Nat.ne_of_lt o0.lt); have t1 := (o0.alloc (.cells #[.int .i64 0, .int .i64 0] 23)).cell 0; have t2 := (o0.alloc (.cells #[.int .i64 0, .int .i64 0] 23)).cell 1; have t3 := (o0.alloc (.cells #[.int .i64 0, .int .i64 0] 23)).frozen 0; have t4 := (o0.alloc (.cells #[.int .i64 0, .int .i64 0] 23)).frozen 1; have t1 := (o0.alloc (.cells #[.int .i64 x1, .int .i64 y1] 23)).cell 0; have t2 := (o0.alloc (.cells #[.int .i64 x1, .int .i64 y1] 23)).cell 1; have t3 := (o0.alloc (.cells #[.int .i64 x1, .int .i64 y1] 23)).frozen 0; have t4 := (o0.alloc (.cells #[.int .i64 x1, .int .i64 y1] 23)).frozen 1) | skip))))
    all_goals (go_wp2_with fail; go_meet; case rel => (first | with_reducible exact two1 hb2 | with_reducible exact two2 hb2 | with_reducible exact two3 hb2 rr0 (by omega) | with_reducible exact two3 hb2 rr1 (by omega) | with_reducible exact two3 hb2 o0 (by omega) | with_reducible exact two3 hb2 o1 (by omega) | with_reducible exact two5 hb2 rr0 (by omega) | with_reducible exact two5 hb2 rr1 (by omega) | with_reducible exact two5 hb2 o0 (by omega) | with_reducible exact two5 hb2 o1 (by omega) | with_reducible exact two4 hb2 rr0 rr1 (by omega) (by omega) (by omega) | with_reducible exact two4 hb2 rr0 o0 (by omega) (by omega) (by omega) | with_reducible exact two4 hb2 rr0 o1 (by omega) (by omega) (by omega) | with_reducible exact two4 hb2 rr1 rr0 (by omega) (by omega) (by omega) | with_reducible exact two4 hb2 rr1 o0 (by omega) (by omega) (by omega) | with_reducible exact two4 hb2 rr1 o1 (by omega) (by omega) (by omega) | with_reducible exact two4 hb2 o0 rr0 (by omega) (by omega) (by omega) | with_reducible exact two4 hb2 o0 rr1 (by omega) (by omega) (by omega) | with_reducible exact two4 hb2 o0 o1 (by omega) (by omega) (by omega) | with_reducible exact two4 hb2 o1 rr0 (by omega) (by omega) (by omega) | with_reducible exact two4 hb2 o1 rr1 (by omega) (by omega) (by omega) | with_reducible exact two4 hb2 o1 o0 (by omega) (by omega) (by omega)))
  case rest =>
    obtain ⟨G5, G6, rfl, rfl, b5, b6, hkc⟩ := hcut
    have HC := Lib.hid (And.intro b5 (And.intro b6 hkc))
    clear b5 b6 hkc
    have q0 := fun p : KeptW wc => (HF.out p.wd (HC.out.2.2.tr p.since)).1.cell 0
    have q1 := fun p : KeptW wc => (HF.out p.wd (HC.out.2.2.tr p.since)).1.cell 1
    have q2 := fun p : KeptW wc => (HF.out p.wd (HC.out.2.2.tr p.since)).1.cell 2
    have q3 := fun p : KeptW wc => (HF.out p.wd (HC.out.2.2.tr p.since)).1.cell 3
    have q4 := fun p : KeptW wc => (HF.out p.wd (HC.out.2.2.tr p.since)).2.1.cell 0
    have q5 := fun p : KeptW wc => (HF.out p.wd (HC.out.2.2.tr p.since)).2.1.cell 1
    have q6 := fun p : KeptW wc => (HF.out p.wd (HC.out.2.2.tr p.since)).2.1.cell 2
    have q7 := fun p : KeptW wc => (HF.out p.wd (HC.out.2.2.tr p.since)).2.1.cell 3
    have q8 := fun p : KeptW wc => (HC.out.1.kept p).cell 0
    have q9 := fun p : KeptW wc => (HC.out.1.kept p).cell 1
    have q10 := fun p : KeptW wc => (HC.out.2.1.kept p).cell 0
    have q11 := fun p : KeptW wc => (HC.out.2.1.kept p).cell 1
    have q12 := fun p : KeptW wc => (HF.out p.wd (HC.out.2.2.tr p.since)).2.2.cell 0
    have q13 := fun p : KeptW wc => (HF.out p.wd (HC.out.2.2.tr p.since)).2.2.cell 1
    have q14 := fun p : KeptW wc => (HF.out p.wd (HC.out.2.2.tr p.since)).2.2.cell 2
    have q15 := fun p : KeptW wc => (HF.out p.wd (HC.out.2.2.tr p.since)).2.2.frozen 0
    have q16 := fun p : KeptW wc => (HF.out p.wd (HC.out.2.2.tr p.since)).2.2.frozen 1
    have q17 := fun p : KeptW wc => (HF.out p.wd (HC.out.2.2.tr p.since)).2.2.frozen 2
    have z0 := q0 ⟨wc, Kp.refl _ _⟩
    have z1 := q1 ⟨wc, Kp.refl _ _⟩
    have z2 := q2 ⟨wc, Kp.refl _ _⟩
    have z3 := q3 ⟨wc, Kp.refl _ _⟩
    have z4 := q4 ⟨wc, Kp.refl _ _⟩
    have z5 := q5 ⟨wc, Kp.refl _ _⟩
    have z6 := q6 ⟨wc, Kp.refl _ _⟩
    have z7 := q7 ⟨wc, Kp.refl _ _⟩
    have z8 := q8 ⟨wc, Kp.refl _ _⟩
    have z9 := q9 ⟨wc, Kp.refl _ _⟩
    have z10 := q10 ⟨wc, Kp.refl _ _⟩
    have z11 := q11 ⟨wc, Kp.refl _ _⟩
    have z12 := q12 ⟨wc, Kp.refl _ _⟩
    have z13 := q13 ⟨wc, Kp.refl _ _⟩
    have z14 := q14 ⟨wc, Kp.refl _ _⟩
    have z15 := q15 ⟨wc, Kp.refl _ _⟩
    have z16 := q16 ⟨wc, Kp.refl _ _⟩
    have z17 := q17 ⟨wc, Kp.refl _ _⟩
    go_upto_region 3 with (first | (go_at_call 32; ((with_reducible refine (Calls.kept_first (c3 _)).mono ?_); rintro e _ ⟨rfl, p, rfl⟩)) | fail)
    refine wp_region_kept (by repeat (first | exact p.since | exact Kp.refl _ _ | refine Kp.drew ?_)) (by assumption) (by kernel_rfl) ?_
    repeat (with_reducible refine wpQuiet_step (fun K hK => ?_); go_simp; first | ((with_reducible refine hK _ ?_); clear hK K) | (with_reducible apply Exists.intro; (with_reducible refine ⟨fun _ => ?_, hK _ ?_⟩); ((first | (go_at_call 24; with_reducible exact Calls.kept_of (c4 _)) | (go_at_call 32; with_reducible exact Calls.kept_of (c5 _)) | fail)); clear hK K))
    with_reducible refine wpQuiet_nil ?_
    rintro _ ⟨p, rfl⟩
    have HC6 := Lib.hid (HC.out.2.2.tr p.since)
    have HB5 := Lib.hid (HC.out.1.kept p)
    generalize p.wd = wd at HC6 HB5 ⊢
    clear q0 z0 q1 z1 q2 z2 q3 z3 q4 z4 q5 z5 q6 z6 q7 z7 q8 z8 q9 z9 q10 z10 q11 z11 q12 z12 q13 z13 q14 z14 q15 z15 q16 z16 q17 z17 c3 c4 c5
    have HP6 := Lib.hid (show ∀ w', Nw wd w' → w'.cell? (⟨w.heap.size, 0, none⟩ : Addr) = some (.int .i64 ax) ∧ w'.cell? (⟨w.heap.size, 1, none⟩ : Addr) = some (.int .i64 ay) ∧ w'.cell? (⟨G5, 0, none⟩ : Addr) = some (.int .i64 x1) ∧ w'.cell? (⟨G5, 1, none⟩ : Addr) = some (.int .i64 y1) from fun w' h => by
      obtain ⟨a, _, _⟩ := HF.out w' (HC6.out.tr h)
      have b := HB5.out.nw h
      exact ⟨a.cell 0, a.cell 1, b.cell 0, b.cell 1⟩)
    have hs := HSG.out
    obtain ⟨hD, hN⟩ := HRG.out
    rcases hs with ⟨h, hd, hn⟩ | ⟨h, hd, hn⟩
    · have e1 : decide (D < 0) = true := decide_eq_true h
      have e2 : wrap64 (-D) = D' := by rw [hd, w64_def, w64_id ⟨by omega, by omega⟩]
      have e3 : wrap64 (-N) = N' := by rw [hn, w64_def, w64_id ⟨by omega, by omega⟩]
      clear h hd hn hD hN
      go_upto_region 6 with fail
      rw [e2, e3]
      go_cut [9] from 36 to 44 (fun pv wx => ∃ g, pv = .pointer (some ⟨g, 0, none⟩) ∧ Blk wx g 23 #[.int .i64 X, .int .i64 Y] ∧ Nw wd wx)
      case first =>
        go_wp2_with fail
        go_region_held3 (fun w' : World => w'.cell? (⟨w.heap.size, 0, none⟩ : Addr) = some (.int .i64 ax) ∧ w'.cell? (⟨w.heap.size, 1, none⟩ : Addr) = some (.int .i64 ay) ∧ w'.cell? (⟨G5, 0, none⟩ : Addr) = some (.int .i64 x1) ∧ w'.cell? (⟨G5, 1, none⟩ : Addr) = some (.int .i64 y1))
          (first | ((refine HP6.out _ ?_); (repeat (first | exact hb3 | exact hb2 | exact hb1 | exact Kp.refl _ _ | refine Kp.alloc ?_ _ | refine Kp.drew ?_ | refine Kp.new ?_ (by omega) _ _))) | fail)
          (first | (go_at_call 28; ((with_reducible refine (c6 _).mono ?_); rintro e u1 ⟨rfl, hk1⟩; have hb1 : Nw wd u1 := Kp.tr (by repeat (first | exact hb3 | exact hb2 | exact hb1 | exact Kp.refl _ _ | refine Kp.alloc ?_ _ | refine Kp.drew ?_ | refine Kp.new ?_ (by omega) _ _)) hk1; have l1 := hb1.size; with_reducible (first | (have p0 := Blk.nw (Blk.drew (Blk.new_at _ 23 #[.int .i64 0, .int .i64 0] (n := wd.heap.size) (by simp))) hk1; have t1 := p0.cell 0; have t2 := p0.cell 1; have t3 := p0.frozen 0; have t4 := p0.frozen 1; have t5 := p0.lt) | skip))) | (go_at_call 28; ((with_reducible refine (c7 _).mono ?_); rintro e u2 ⟨rfl, hk2⟩; have hb2 : Nw wd u2 := Kp.tr (by repeat (first | exact hb3 | exact hb2 | exact hb1 | exact Kp.refl _ _ | refine Kp.alloc ?_ _ | refine Kp.drew ?_ | refine Kp.new ?_ (by omega) _ _)) hk2; have l2 := hb2.size; with_reducible (first | (have t := p0; have pp := Blk.nw p0 hk2; have t1 := pp.cell 0; have t2 := pp.cell 1; have t3 := pp.frozen 0; have t4 := pp.frozen 1; have t5 := pp.lt) | (have pp := Blk.nw (Blk.new_at _ 23 #[.int .i64 0, .int .i64 0] (n := u1.heap.size) (by simp)) hk2; have t1 := pp.cell 0; have t2 := pp.cell 1; have t3 := pp.frozen 0; have t4 := pp.frozen 1; have t5 := pp.lt) | skip))) | (go_at_call 22; ((with_reducible refine (c8 _).mono ?_); rintro e u3 ⟨rfl, hk3⟩; have hb3 : Nw wd u3 := Kp.tr (by repeat (first | exact hb3 | exact hb2 | exact hb1 | exact Kp.refl _ _ | refine Kp.alloc ?_ _ | refine Kp.drew ?_ | refine Kp.new ?_ (by omega) _ _)) hk3; have l3 := hb3.size; with_reducible (first | (have t := pp; have ppp := Blk.nw pp hk3; have t1 := ppp.cell 0; have t2 := ppp.cell 1; have t3 := ppp.frozen 0; have t4 := ppp.frozen 1; have t5 := ppp.lt) | (have ppp := Blk.nw (Blk.new_at _ 23 #[.int .i64 0, .int .i64 0] (n := u2.heap.size) (by simp)) hk3; have t1 := ppp.cell 0; have t2 := ppp.cell 1; have t3 := ppp.frozen 0; have t4 := ppp.frozen 1; have t5 := ppp.lt) | skip))))
        all_goals (go_wp2_with fail; go_meet; case rel => (first | exact ⟨_, rfl, Blk.new _ _ _, hb3.alloc _⟩ | exact ⟨_, rfl, ppp.lay2 _ _, hb3.new2 (by omega) _ _⟩))
      case rest =>
        obtain ⟨g9, rfl, b9, hk9⟩ := hcut
        have HN9 := Lib.hid (HC6.out.tr hk9)
        have HR9 := Lib.hid (HF.out _ HN9.out).2.2
        obtain ⟨z0, z1, _, _⟩ := b9.two
        clear hk9 b9 hmix
        have t0 := fun p => (HR9.out.kept p).cell 0
        have t1 := fun p => (HR9.out.kept p).cell 1
        have t2 := fun p => (HR9.out.kept p).cell 2
        have y0 := fun p => (HR9.out.kept p).frozen 0
        have y1 := fun p => (HR9.out.kept p).frozen 1
        have y2 := fun p => (HR9.out.kept p).frozen 2
        go_wp2_with (first | (go_at_call 142; ((with_reducible refine (Calls.kept_first (c9 _)).mono ?_); rintro e _ ⟨rfl, p, rfl⟩)) | fail)
        generalize hw9 : World.setCell _ _ _ = w9
        have h9 : Blk w9 (w.heap.size + 1 + 1) 50 #[.int .i64 r1, .int .i64 r2, .int .i64 r3] := by rw [← hw9]; exact (((HR9.out.kept p).set_ 0 _).set_ 1 _).set_ 2 _
        have hn9 : Nw w w9 := by rw [← hw9]; exact ((((HW.out.tr HN9.out).tr p.since).new HRL.out _ _).new HRL.out _ _).new HRL.out _ _
        obtain ⟨x0, x1, x2, _, _, _⟩ := h9.three
        exact bodyPost_ret (v := pV r1 r2 r3) (by simp [results, Try.results102, go_sem, x0, x1, x2]) rfl ⟨rfl, hn9⟩
    · have e1 : decide (D < 0) = false := decide_eq_false (Int.not_lt.2 h)
      clear h hD hN
      subst hd hn
      go_upto_region 6 with fail
      skip
      go_cut [9] from 36 to 44 (fun pv wx => ∃ g, pv = .pointer (some ⟨g, 0, none⟩) ∧ Blk wx g 23 #[.int .i64 X, .int .i64 Y] ∧ Nw wd wx)
      case first =>
        go_wp2_with fail
        go_region_held3 (fun w' : World => w'.cell? (⟨w.heap.size, 0, none⟩ : Addr) = some (.int .i64 ax) ∧ w'.cell? (⟨w.heap.size, 1, none⟩ : Addr) = some (.int .i64 ay) ∧ w'.cell? (⟨G5, 0, none⟩ : Addr) = some (.int .i64 x1) ∧ w'.cell? (⟨G5, 1, none⟩ : Addr) = some (.int .i64 y1))
          (first | ((refine HP6.out _ ?_); (repeat (first | exact hb3 | exact hb2 | exact hb1 | exact Kp.refl _ _ | refine Kp.alloc ?_ _ | refine Kp.drew ?_ | refine Kp.new ?_ (by omega) _ _))) | fail)
          (first | (go_at_call 28; ((with_reducible refine (c6 _).mono ?_); rintro e u1 ⟨rfl, hk1⟩; have hb1 : Nw wd u1 := Kp.tr (by repeat (first | exact hb3 | exact hb2 | exact hb1 | exact Kp.refl _ _ | refine Kp.alloc ?_ _ | refine Kp.drew ?_ | refine Kp.new ?_ (by omega) _ _)) hk1; have l1 := hb1.size; with_reducible (first | (have p0 := Blk.nw (Blk.drew (Blk.new_at _ 23 #[.int .i64 0, .int .i64 0] (n := wd.heap.size) (by simp))) hk1; have t1 := p0.cell 0; have t2 := p0.cell 1; have t3 := p0.frozen 0; have t4 := p0.frozen 1; have t5 := p0.lt) | skip))) | (go_at_call 28; ((with_reducible refine (c7 _).mono ?_); rintro e u2 ⟨rfl, hk2⟩; have hb2 : Nw wd u2 := Kp.tr (by repeat (first | exact hb3 | exact hb2 | exact hb1 | exact Kp.refl _ _ | refine Kp.alloc ?_ _ | refine Kp.drew ?_ | refine Kp.new ?_ (by omega) _ _)) hk2; have l2 := hb2.size; with_reducible (first | (have t := p0; have pp := Blk.nw p0 hk2; have t1 := pp.cell 0; have t2 := pp.cell 1; have t3 := pp.frozen 0; have t4 := pp.frozen 1; have t5 := pp.lt) | (have pp := Blk.nw (Blk.new_at _ 23 #[.int .i64 0, .int .i64 0] (n := u1.heap.size) (by simp)) hk2; have t1 := pp.cell 0; have t2 := pp.cell 1; have t3 := pp.frozen 0; have t4 := pp.frozen 1; have t5 := pp.lt) | skip))) | (go_at_call 22; ((with_reducible refine (c8 _).mono ?_); rintro e u3 ⟨rfl, hk3⟩; have hb3 : Nw wd u3 := Kp.tr (by repeat (first | exact hb3 | exact hb2 | exact hb1 | exact Kp.refl _ _ | refine Kp.alloc ?_ _ | refine Kp.drew ?_ | refine Kp.new ?_ (by omega) _ _)) hk3; have l3 := hb3.size; with_reducible (first | (have t := pp; have ppp := Blk.nw pp hk3; have t1 := ppp.cell 0; have t2 := ppp.cell 1; have t3 := ppp.frozen 0; have t4 := ppp.frozen 1; have t5 := ppp.lt) | (have ppp := Blk.nw (Blk.new_at _ 23 #[.int .i64 0, .int .i64 0] (n := u2.heap.size) (by simp)) hk3; have t1 := ppp.cell 0; have t2 := ppp.cell 1; have t3 := ppp.frozen 0; have t4 := ppp.frozen 1; have t5 := ppp.lt) | skip))))
        all_goals (go_wp2_with fail; go_meet; case rel => (first | exact ⟨_, rfl, Blk.new _ _ _, hb3.alloc _⟩ | exact ⟨_, rfl, ppp.lay2 _ _, hb3.new2 (by omega) _ _⟩))
      case rest =>
        obtain ⟨g9, rfl, b9, hk9⟩ := hcut
        have HN9 := Lib.hid (HC6.out.tr hk9)
        have HR9 := Lib.hid (HF.out _ HN9.out).2.2
        obtain ⟨z0, z1, _, _⟩ := b9.two
        clear hk9 b9 hmix
        have t0 := fun p => (HR9.out.kept p).cell 0
        have t1 := fun p => (HR9.out.kept p).cell 1
        have t2 := fun p => (HR9.out.kept p).cell 2
        have y0 := fun p => (HR9.out.kept p).frozen 0
        have y1 := fun p => (HR9.out.kept p).frozen 1
        have y2 := fun p => (HR9.out.kept p).frozen 2
        go_wp2_with (first | (go_at_call 142; ((with_reducible refine (Calls.kept_first (c9 _)).mono ?_); rintro e _ ⟨rfl, p, rfl⟩)) | fail)
        generalize hw9 : World.setCell _ _ _ = w9
        have h9 : Blk w9 (w.heap.size + 1 + 1) 50 #[.int .i64 r1, .int .i64 r2, .int .i64 r3] := by rw [← hw9]; exact (((HR9.out.kept p).set_ 0 _).set_ 1 _).set_ 2 _
        have hn9 : Nw w w9 := by rw [← hw9]; exact ((((HW.out.tr HN9.out).tr p.since).new HRL.out _ _).new HRL.out _ _).new HRL.out _ _
        obtain ⟨x0, x1, x2, _, _, _⟩ := h9.three
        exact bodyPost_ret (v := pV r1 r2 r3) (by simp [results, Try.results102, go_sem, x0, x1, x2]) rfl ⟨rfl, hn9⟩

end Go.Proofs.Ytahamffngmdjfaa.W
