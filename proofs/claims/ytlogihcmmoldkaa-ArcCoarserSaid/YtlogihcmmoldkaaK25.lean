/-
  seg: crossing: the point at which two segments cross, in lowest terms. Conditions: the coordinates are within 4000, the segments are not parallel.
-/
import Derived.Test.YtlogihcmmoldkaaK24
import Derived.Deep.RegionHeld3
import Derived.Deep.CutRange
namespace Go.Proofs.Ytlogihcmmoldkaa.W
open Go.RowKit Go.Proofs.Ytlogihcmmoldkaa.V Go.Proofs.Ytlogihcmmoldkaa.G

def crossX (ax ay bx bz cx cy dx dy : Int) : Int := ax * denX ax ay bx bz cx cy dx dy + (bx - ax) * numX ax ay cx cy dx dy
def crossY (ax ay bx bz cx cy dx dy : Int) : Int := ay * denX ax ay bx bz cx cy dx dy + (bz - ay) * numX ax ay cx cy dx dy
def crossS (ax ay bx bz cx cy dx dy : Int) : Int × Int × Int := if denX ax ay bx bz cx cy dx dy < 0 then lowV (-crossX ax ay bx bz cx cy dx dy) (-crossY ax ay bx bz cx cy dx dy) (-denX ax ay bx bz cx cy dx dy) else lowV (crossX ax ay bx bz cx cy dx dy) (crossY ax ay bx bz cx cy dx dy) (denX ax ay bx bz cx cy dx dy)
theorem Blk.nw {w w' : World} {g : Nat} {t : TypeId} {cs : Array Value} (h : Blk w g t cs) (hk : Nw w w') : Blk w' g t cs := h.kp hk id
theorem abs_le_mul {x y A B : Int} (hx : -A ≤ x ∧ x ≤ A) (hy : -B ≤ y ∧ y ≤ B) : -(A * B) ≤ x * y ∧ x * y ≤ A * B := by
  have h := Nat.mul_le_mul (show x.natAbs ≤ A.natAbs by omega) (show y.natAbs ≤ B.natAbs by omega)
  rw [← Int.natAbs_mul, ← Int.natAbs_mul] at h
  have hp := Int.mul_nonneg (show 0 ≤ A by omega) (show 0 ≤ B by omega)
  omega
theorem den_le {ax ay bx bz cx cy dx dy : Int} (ha : Lm ax ay) (hb : Lm bx bz) (hc : Lm cx cy) (hd : Lm dx dy) : (-128000000 ≤ denX ax ay bx bz cx cy dx dy ∧ denX ax ay bx bz cx cy dx dy ≤ 128000000) ∧ (-128000000 ≤ numX ax ay cx cy dx dy ∧ numX ax ay cx cy dx dy ≤ 128000000) := by
  unfold Lm at ha hb hc hd
  unfold denX numX
  have h1 := abs_le_mul (x := bx - ax) (y := dy - cy) (A := 8000) (B := 8000) (by omega) (by omega)
  have h2 := abs_le_mul (x := bz - ay) (y := dx - cx) (A := 8000) (B := 8000) (by omega) (by omega)
  have h3 := abs_le_mul (x := cx - ax) (y := dy - cy) (A := 8000) (B := 8000) (by omega) (by omega)
  have h4 := abs_le_mul (x := cy - ay) (y := dx - cx) (A := 8000) (B := 8000) (by omega) (by omega)
  omega
theorem cross_le {ax ay bx bz cx cy dx dy : Int} (ha : Lm ax ay) (hb : Lm bx bz) (hc : Lm cx cy) (hd : Lm dx dy) : (-1536000000000 ≤ crossX ax ay bx bz cx cy dx dy ∧ crossX ax ay bx bz cx cy dx dy ≤ 1536000000000) ∧ (-1536000000000 ≤ crossY ax ay bx bz cx cy dx dy ∧ crossY ax ay bx bz cx cy dx dy ≤ 1536000000000) := by
  obtain ⟨h1, h2⟩ := den_le ha hb hc hd
  unfold Lm at ha hb hc hd
  unfold crossX crossY
  have g1 := abs_le_mul (x := ax) (A := 4000) (by omega) h1
  have g2 := abs_le_mul (x := ay) (A := 4000) (by omega) h1
  have g3 := abs_le_mul (x := bx - ax) (A := 8000) (by omega) h2
  have g4 := abs_le_mul (x := bz - ay) (A := 8000) (by omega) h2
  omega

theorem Blk.far2 {w : World} {g k : Nat} {t : TypeId} {cs : Array Value} (h : Blk w g t cs) (hne : g ≠ k) (x y : Value) : Blk ((w.setCell ⟨k, 0, none⟩ x).setCell ⟨k, 1, none⟩ y) g t cs := (h.far (p := ⟨k, 0, none⟩) hne x).far (p := ⟨k, 1, none⟩) hne y
theorem Kp.new2 {Q : Nat → Prop} {a w : World} (h : Kp Q a w) {b : Nat} (hb : a.heap.size ≤ b) (x y : Value) : Kp Q a ((w.setCell ⟨b, 0, none⟩ x).setCell ⟨b, 1, none⟩ y) := (h.new hb 0 x).new hb 1 y
/-- two vectors in boxes of their own, and nothing else has changed -/
def Rel2 (x1 y1 x2 y2 : Int) (w0 : World) (px py : Value) (wx : World) : Prop := ∃ BX BY, px = .pointer (some ⟨BX, 0, none⟩) ∧ py = .pointer (some ⟨BY, 0, none⟩) ∧ Blk wx BX 23 #[.int .i64 x1, .int .i64 y1] ∧ Blk wx BY 23 #[.int .i64 x2, .int .i64 y2] ∧ Nw w0 wx
section
variable {x1 y1 x2 y2 : Int} {w0 w5 : World} {u v u' v' : Value} (hk : Nw w0 w5)
include hk
theorem two1 : Rel2 x1 y1 x2 y2 w0 (.pointer (some ⟨w5.heap.size, 0, none⟩)) (.pointer (some ⟨w5.heap.size + 1, 0, none⟩)) ((w5.alloc (.cells #[.int .i64 x1, .int .i64 y1] 23)).alloc (.cells #[.int .i64 x2, .int .i64 y2] 23)) :=
  ⟨_, _, rfl, rfl, (Blk.new _ _ _).alloc _, Blk.new_at _ _ _ (by simp), hk.tr ((nw_alloc w5 _).alloc _)⟩
theorem two2 : Rel2 x1 y1 x2 y2 w0 (.pointer (some ⟨w5.heap.size + 1, 0, none⟩)) (.pointer (some ⟨w5.heap.size, 0, none⟩)) ((w5.alloc (.cells #[.int .i64 x2, .int .i64 y2] 23)).alloc (.cells #[.int .i64 x1, .int .i64 y1] 23)) :=
  ⟨_, _, rfl, rfl, Blk.new_at _ _ _ (by simp), (Blk.new _ _ _).alloc _, hk.tr ((nw_alloc w5 _).alloc _)⟩
theorem two4 {h1 h2 : Nat} (b1 : Blk w5 h1 23 #[u, v]) (b2 : Blk w5 h2 23 #[u', v']) (hne : h1 ≠ h2) (s1 : w0.heap.size ≤ h1) (s2 : w0.heap.size ≤ h2) : Rel2 x1 y1 x2 y2 w0 (.pointer (some ⟨h1, 0, none⟩)) (.pointer (some ⟨h2, 0, none⟩)) ((((w5.setCell ⟨h1, 0, none⟩ (.int .i64 x1)).setCell ⟨h1, 1, none⟩ (.int .i64 y1)).setCell ⟨h2, 0, none⟩ (.int .i64 x2)).setCell ⟨h2, 1, none⟩ (.int .i64 y2)) :=
  ⟨_, _, rfl, rfl, (b1.lay2 _ _).far2 hne _ _, (b2.far2 (Ne.symm hne) _ _).lay2 _ _, (hk.new2 s1 _ _).new2 s2 _ _⟩
theorem two5 {h2 : Nat} (b2 : Blk w5 h2 23 #[u', v']) (s2 : w0.heap.size ≤ h2) : Rel2 x1 y1 x2 y2 w0 (.pointer (some ⟨w5.heap.size, 0, none⟩)) (.pointer (some ⟨h2, 0, none⟩)) (((w5.alloc (.cells #[.int .i64 x1, .int .i64 y1] 23)).setCell ⟨h2, 0, none⟩ (.int .i64 x2)).setCell ⟨h2, 1, none⟩ (.int .i64 y2)) :=
  ⟨_, _, rfl, rfl, (Blk.new _ _ _).far2 (Nat.ne_of_gt b2.lt) _ _, (b2.alloc _).lay2 _ _, (hk.alloc _).new2 s2 _ _⟩
theorem two3 {h1 : Nat} (b1 : Blk w5 h1 23 #[u, v]) (s1 : w0.heap.size ≤ h1) : Rel2 x1 y1 x2 y2 w0 (.pointer (some ⟨h1, 0, none⟩)) (.pointer (some ⟨w5.heap.size, 0, none⟩)) (((((w5.alloc (.cells #[.int .i64 0, .int .i64 0] 23)).setCell ⟨h1, 0, none⟩ (.int .i64 x1)).setCell ⟨h1, 1, none⟩ (.int .i64 y1)).setCell ⟨w5.heap.size, 0, none⟩ (.int .i64 x2)).setCell ⟨w5.heap.size, 1, none⟩ (.int .i64 y2)) :=
  two4 (hk.alloc _) (b1.alloc _) (Blk.new w5 _ _) (Nat.ne_of_lt b1.lt) s1 hk.size
end

end Go.Proofs.Ytlogihcmmoldkaa.W
