/-
  seg and its reference: valid points, points that are compared, Whole, PointOf: what each returns. Condition: none.
  seg and its reference: lowest, PointOf, Whole; Meet and Share of seg. Conditions: for lowest, numbers within 2^61 and a denominator that is not 0.
-/
import Derived.Test.YtlogihcmmoldkaaK22
import Derived.Test.YtlogihcmmoldkaaK21
import Derived.BigRegion
namespace Go.Proofs.Ytlogihcmmoldkaa.W
open Go.RowKit Go.Proofs.Ytlogihcmmoldkaa.V Go.Proofs.Ytlogihcmmoldkaa.G

def isDen (d : Int) : Bool := decide (1 ≤ d) && decide (d ≤ 134217728)
def inPt (x y d m : Int) : Bool := isDen d && withinV x y (w64 (m * d))
def validP (x y d : Int) : Bool := inPt x y d 4000 && (gcd3 x y d == 1)
def nearP (x y d : Int) : Bool := inPt x y d 2000 && validP x y d
theorem den_iff (d : Int) : isDen d = true ↔ 1 ≤ d ∧ d ≤ 134217728 := by
  unfold isDen
  simp
theorem in_mid {x y d m : Int} (hm : 0 ≤ m ∧ m ≤ 4000) (h : inPt x y d m = true) : (1 ≤ d ∧ d ≤ 134217728) ∧ (-(m * d) ≤ x ∧ x ≤ m * d ∧ -(m * d) ≤ y ∧ y ≤ m * d) ∧ 0 ≤ m * d ∧ m * d ≤ 536870912000 := by
  unfold inPt at h
  rw [Bool.and_eq_true, den_iff] at h
  obtain ⟨h, g⟩ := h
  have a := Int.mul_nonneg hm.1 (show 0 ≤ d by omega)
  have b := Int.mul_le_mul hm.2 h.2 (by omega) (by omega)
  unfold withinV at g
  rw [w64_id (n := m * d) ⟨by omega, by omega⟩, w64_id (n := -(m * d)) ⟨by omega, by omega⟩] at g
  simp at g
  exact ⟨h, ⟨g.1.1.1, g.1.1.2, g.1.2, g.2⟩, a, by omega⟩

theorem near_eq (x y d : Int) : nearP x y d = (validP x y d && withinV x y (w64 (2000 * d))) := by
  unfold nearP inPt
  cases hv : validP x y d
  · simp
  · have h : inPt x y d 4000 = true := by unfold validP at hv; simp at hv; exact hv.1
    unfold inPt at h
    simp at h
    simp [h.1]
end Go.Proofs.Ytlogihcmmoldkaa.W

namespace Go.Proofs.Ytlogihcmmoldkaa.W
open Go.RowKit Go.Proofs.Ytlogihcmmoldkaa.V Go.Proofs.Ytlogihcmmoldkaa.G

theorem tdiv_near (a : Int) (g : Int) (h : -9223372036854775808 < a ∧ a ≤ 9223372036854775807) : IntKind.i64.wrap (a.tdiv g) = a.tdiv g ∧ wrap64 (a.tdiv g) = a.tdiv g := by
  have := Int.natAbs_tdiv_le_natAbs a g
  exact ⟨wrap_mid (by omega), by rw [w64_def, w64_id ⟨by omega, by omega⟩]⟩
theorem mid_gcd {x y M : Int} (hx : -M ≤ x ∧ x ≤ M) (hy : -M ≤ y ∧ y ≤ M) : ((Int.gcd x y : Nat) : Int) ≤ M := by
  by_cases hx0 : x = 0
  · subst hx0
    rw [Int.gcd_zero_left]
    omega
  · have := Int.gcd_le_natAbs_left y hx0
    omega
theorem abs_nat {x : Int} (h : -9223372036854775808 < x ∧ x ≤ 9223372036854775807) : absV x = ((x.natAbs : Nat) : Int) := by
  unfold absV
  split
  · omega
  · rw [w64_id ⟨by omega, by omega⟩]
    omega

end Go.Proofs.Ytlogihcmmoldkaa.W
