/-
  vec, plain: wrapped arithmetic of vectors, their order, the norm, the turn; no program. No condition.
-/
import Derived.Test.YtahamffngmdjfaaHB
namespace Go.Proofs.Ytahamffngmdjfaa.V
open Go.RowKit

def I64 (n : Int) : Prop := -9223372036854775808 ≤ n ∧ n ≤ 9223372036854775807
def w64 (n : Int) : Int := wrap64 n
theorem w64_def (n : Int) : wrap64 n = w64 n := rfl
theorem w64_eq (n : Int) : w64 n = (n + 9223372036854775808) % 18446744073709551616 - 9223372036854775808 := by
  unfold w64 wrap64
  omega
theorem w64_id {n : Int} (h : I64 n) : w64 n = n := by
  obtain ⟨h1, h2⟩ := h
  rw [w64_eq]
  omega
theorem w64_i64 (n : Int) : I64 (w64 n) := by
  rw [w64_eq]
  exact ⟨by omega, by omega⟩
theorem w64_off (n : Int) : ∃ k : Int, w64 n = n + 18446744073709551616 * k := ⟨-((n + 9223372036854775808) / 18446744073709551616), by rw [w64_eq]; omega⟩
theorem w64_more (n k : Int) : w64 (n + 18446744073709551616 * k) = w64 n := by
  rw [w64_eq, w64_eq]
  omega
theorem w64_of {a b k : Int} (h : a = b + 18446744073709551616 * k) : w64 a = w64 b := by rw [h, w64_more]
theorem w64_add (a b : Int) : w64 (w64 a + w64 b) = w64 (a + b) := by
  obtain ⟨k, hk⟩ := w64_off a
  obtain ⟨l, hl⟩ := w64_off b
  rw [hk, hl]
  exact w64_of (k := k + l) (by rw [Int.mul_add]; omega)
theorem w64_sub (a b : Int) : w64 (w64 a - w64 b) = w64 (a - b) := by
  obtain ⟨k, hk⟩ := w64_off a
  obtain ⟨l, hl⟩ := w64_off b
  rw [hk, hl]
  exact w64_of (k := k - l) (by rw [Int.mul_sub]; omega)
theorem w64_neg (a : Int) : w64 (-w64 a) = w64 (-a) := by
  obtain ⟨k, hk⟩ := w64_off a
  rw [hk]
  exact w64_of (k := -k) (by rw [Int.mul_neg]; omega)
theorem w64_mul (a b : Int) : w64 (w64 a * w64 b) = w64 (a * b) := by
  obtain ⟨k, hk⟩ := w64_off a
  obtain ⟨l, hl⟩ := w64_off b
  rw [hk, hl]
  exact w64_of (k := k * b + a * l + 18446744073709551616 * (k * l)) (by grind)
theorem w64_w (a : Int) : w64 (w64 a) = w64 a := w64_id (w64_i64 a)
theorem w64_addl (a b : Int) : w64 (w64 a + b) = w64 (a + b) := by
  obtain ⟨k, hk⟩ := w64_off a
  rw [hk]
  exact w64_of (k := k) (by omega)
theorem w64_addr (a b : Int) : w64 (a + w64 b) = w64 (a + b) := by rw [Int.add_comm, w64_addl, Int.add_comm]
theorem w64_subl (a b : Int) : w64 (w64 a - b) = w64 (a - b) := by
  obtain ⟨k, hk⟩ := w64_off a
  rw [hk]
  exact w64_of (k := k) (by omega)
theorem w64_subr (a b : Int) : w64 (a - w64 b) = w64 (a - b) := by
  obtain ⟨k, hk⟩ := w64_off b
  rw [hk]
  exact w64_of (k := -k) (by rw [Int.mul_neg]; omega)
theorem w64_mull (a b : Int) : w64 (w64 a * b) = w64 (a * b) := by
  obtain ⟨k, hk⟩ := w64_off a
  rw [hk]
  exact w64_of (k := k * b) (by grind)
theorem w64_mulr (a b : Int) : w64 (a * w64 b) = w64 (a * b) := by rw [Int.mul_comm, w64_mull, Int.mul_comm]

def sgn (n : Int) : Int := if n < 0 then -1 else if n = 0 then 0 else 1
def dotV (ax ay bx bz : Int) : Int := w64 (ax * bx + ay * bz)
def crossV (ax ay bx bz : Int) : Int := w64 (ax * bz - ay * bx)
def turnV (ax ay bx bz cx cy : Int) : Int := sgn (w64 ((bx - ax) * (cy - ay) - (bz - ay) * (cx - ax)))
def cmpV (ax ay bx bz : Int) : Int := if sgn (ay - bz) ≠ 0 then sgn (ay - bz) else sgn (ax - bx)
def lessV (ax ay bx bz : Int) : Bool := decide (ay < bz) || (decide (ay = bz) && decide (ax < bx))
def absV (n : Int) : Int := if 0 ≤ n then n else w64 (-n)
def normV (x y : Int) : Int := if absV x ≤ absV y then absV y else absV x
def withinV (x y m : Int) : Bool := decide (w64 (-m) ≤ x) && decide (x ≤ m) && decide (w64 (-m) ≤ y) && decide (y ≤ m)
def inBoxV (lx ly hx hy x y : Int) : Bool := decide (lx ≤ x) && decide (x ≤ hx) && decide (ly ≤ y) && decide (y ≤ hy)
theorem sgn_cases (n : Int) : n < 0 ∧ sgn n = -1 ∨ n = 0 ∧ sgn n = 0 ∨ 0 < n ∧ sgn n = 1 := by
  unfold sgn
  grind
theorem cmpV_cases (ax ay bx bz : Int) : (ay < bz ∨ ay = bz ∧ ax < bx) ∧ cmpV ax ay bx bz = -1 ∨ ax = bx ∧ ay = bz ∧ cmpV ax ay bx bz = 0 ∨ (bz < ay ∨ ay = bz ∧ bx < ax) ∧ cmpV ax ay bx bz = 1 := by
  unfold cmpV
  rcases sgn_cases (ay - bz) with ⟨h, e⟩ | ⟨h, e⟩ | ⟨h, e⟩ <;> rcases sgn_cases (ax - bx) with ⟨h', e'⟩ | ⟨h', e'⟩ | ⟨h', e'⟩ <;> simp [e, e'] <;> omega
theorem less_cmp (ax ay bx bz : Int) : lessV ax ay bx bz = decide (cmpV ax ay bx bz < 0) := by
  unfold lessV
  rcases cmpV_cases ax ay bx bz with ⟨h, e⟩ | ⟨h, h', e⟩ | ⟨h, e⟩ <;> rw [e] <;> simp <;> omega
theorem turn_cross (ax ay bx bz cx cy : Int) : sgn (crossV (w64 (bx - ax)) (w64 (bz - ay)) (w64 (cx - ax)) (w64 (cy - ay))) = turnV ax ay bx bz cx cy := by
  unfold crossV turnV
  congr 1
  rw [← w64_sub, w64_mul, w64_mul, w64_sub]
theorem dot_way (ax ay bx bz : Int) : w64 (w64 (ax * bx) + w64 (ay * bz)) = dotV ax ay bx bz := w64_add _ _
theorem cross_way (ax ay bx bz : Int) : w64 (w64 (ax * bz) - w64 (ay * bx)) = crossV ax ay bx bz := w64_sub _ _

def minV (a b : Int) : Int := if b < a then b else a
def maxV (a b : Int) : Int := if b > a then b else a
def boxStep (b : Int × Int × Int × Int) (p : Int × Int) : Int × Int × Int × Int := (minV b.1 p.1, minV b.2.1 p.2, maxV b.2.2.1 p.1, maxV b.2.2.2 p.2)
def boxOf : List (Int × Int) → (Int × Int × Int × Int) × Bool
  | [] => ((0, 0, 0, 0), false)
  | p :: r => ((p :: r).foldl boxStep (p.1, p.2, p.1, p.2), true)
end Go.Proofs.Ytahamffngmdjfaa.V
