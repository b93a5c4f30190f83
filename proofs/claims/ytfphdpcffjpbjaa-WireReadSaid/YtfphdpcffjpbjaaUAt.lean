/-
  Plain arithmetic of the reference's reading of an integer: the number of 64 bits behind some of its bytes. No condition.
-/
import Derived.Test.YtfphdpcffjpbjaaRec
namespace Go.Proofs.Ytfphdpcffjpbjaa.Pl
open Go.RowKit

/-- the number of 64 bits behind j bytes of x; e stands for the bits before them -/
def uAt (e : Int) (x : List Int) (j : Nat) : Int := (if j = 0 then e else val (x.take j)) % 18446744073709551616
theorem uAt_zero (x : List Int) : uAt 0 x 0 = 0 := rfl
theorem uAt_ones (x : List Int) : uAt (-1) x 0 = 18446744073709551615 := by simp [uAt]
theorem uAt_range (e : Int) (x : List Int) (j : Nat) : 0 ≤ uAt e x j ∧ uAt e x j ≤ 18446744073709551615 := by unfold uAt; omega
theorem u64_wrap (a : Int) : IntKind.u64.wrap a = a % 18446744073709551616 := rfl
theorem uAt_step {e : Int} {x : List Int} {j : Nat} {y : Int} (hx : x[j]? = some y) (h0 : j = 0 → e * 256 + y = sgn y) :
    IntKind.u64.wrap (IntKind.u64.wrap (uAt e x j * 256) + y) = uAt e x (j + 1) := by
  rw [u64_wrap, u64_wrap]
  by_cases hj : j = 0
  · subst hj
    have := h0 rfl
    rw [show uAt e x (0 + 1) = val (x.take 1) % 18446744073709551616 from rfl, take_one hx, ← this]
    unfold uAt
    rw [if_pos rfl]
    omega
  · rw [show uAt e x (j + 1) = val (x.take (j + 1)) % 18446744073709551616 from by unfold uAt; rw [if_neg (by omega)], take_more hx hj]
    unfold uAt
    rw [if_neg hj]
    omega
theorem uAt_end {e : Int} {x : List Int} {j : Nat} (hj : j = x.length) (h0 : j = 0 → e = 0) (h : I64 (val x)) : IntKind.i64.wrap (uAt e x j) = val x := by
  obtain ⟨h1, h2⟩ := h
  rw [IntKind.wrap_i64]
  unfold uAt
  by_cases hz : j = 0
  · rw [if_pos hz, h0 hz]
    have : x = [] := List.eq_nil_of_length_eq_zero (by omega)
    subst this
    rfl
  · rw [if_neg hz, List.take_of_length_le (by omega)]
    omega
theorem sgn_low {y : Int} (h : y < 128) : 0 * 256 + y = sgn y := by unfold sgn; rw [if_pos h]; omega
theorem sgn_high {y : Int} (h : 128 ≤ y) : -1 * 256 + y = sgn y := by unfold sgn; rw [if_neg (by omega)]; omega
end Go.Proofs.Ytfphdpcffjpbjaa.Pl
