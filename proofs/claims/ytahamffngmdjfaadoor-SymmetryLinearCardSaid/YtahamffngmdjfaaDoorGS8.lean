/-
  seg and its reference: lowest, PointOf, Whole; Meet and Share of seg. Conditions: for lowest, numbers within 2^61 and a denominator that is not 0.
-/
import Derived.Test.YtahamffngmdjfaaDoorGS7
import Derived.Test.YtahamffngmdjfaaDoorGS3
import Derived.BigRegion
namespace Go.Proofs.YtahamffngmdjfaaDoor.W
open Go.RowKit Go.Proofs.YtahamffngmdjfaaDoor.V Go.Proofs.YtahamffngmdjfaaDoor.G

theorem tdiv_near (a : Int) (g : Int) (h : -9223372036854775808 < a ∧ a ≤ 9223372036854775807) : IntKind.i64.wrap (a.tdiv g) = a.tdiv g ∧ wrap64 (a.tdiv g) = a.tdiv g := by
  have := Int.natAbs_tdiv_le_natAbs a g
  exact ⟨wrap_mid (by omega), by rw [w64_def, w64_id ⟨by omega, by omega⟩]⟩
theorem mid_gcd {x y M : Int} (hx : -M ≤ x ∧ x ≤ M) (hy : -M ≤ y ∧ y ≤ M) : ((Int.gcd x y : Nat) : Int) ≤ M := by
  by_cases hx0 : x = 0
  · subst hx0
    rw [Int.gcd_zero_left]
    omega
  · have := Int.gcd_le_natAbs_left y hx0
    omega
theorem abs_nat {x : Int} (h : -9223372036854775808 < x ∧ x ≤ 9223372036854775807) : absV x = ((x.natAbs : Nat) : Int) := by
  unfold absV
  split
  · omega
  · rw [w64_id ⟨by omega, by omega⟩]
    omega

theorem rlow_pos (x y d : Int) (hx : -2305843009213693952 ≤ x ∧ x ≤ 2305843009213693952) (hy : -2305843009213693952 ≤ y ∧ y ≤ 2305843009213693952) (hdd : 0 ≤ d ∧ d ≤ 2305843009213693952) :
    (∀ w1, Calls Tryd.prog 48 #[.int .i64 x] w1 fun e w' => e = .returned (.int .i64 (x.natAbs : Nat)) ∧ w1 = w') ∧ (∀ w1, Calls Tryd.prog 48 #[.int .i64 y] w1 fun e w' => e = .returned (.int .i64 (y.natAbs : Nat)) ∧ w1 = w') ∧
    (∀ w1, Calls Tryd.prog 86 #[.int .i64 (x.natAbs : Nat), .int .i64 (y.natAbs : Nat)] w1 fun e w' => e = .returned (.int .i64 (Int.gcd x y : Nat)) ∧ Nw w1 w') ∧ (∀ w1, Calls Tryd.prog 86 #[.int .i64 (Int.gcd x y : Nat), .int .i64 d] w1 fun e w' => e = .returned (.int .i64 (gcd3 x y d : Nat)) ∧ Nw w1 w') := by
  have a1 := fun w1 => rabs_any x w1
  have a2 := fun w1 => rabs_any y w1
  rw [abs_nat (by omega)] at a1
  rw [abs_nat (by omega)] at a2
  have hgc : Int.gcd (x.natAbs : Nat) (y.natAbs : Nat) = Int.gcd x y := by show Nat.gcd (x.natAbs : Int).natAbs (y.natAbs : Int).natAbs = _; rw [Int.natAbs_natCast, Int.natAbs_natCast]; rfl
  have c2 := fun w1 => divisor_any (x.natAbs : Nat) (y.natAbs : Nat) (by omega) (by omega) w1
  rw [hgc] at c2
  have hgg := mid_gcd hx hy
  have c3 := fun w1 => divisor_any (Int.gcd x y : Nat) d (by omega) (by omega) w1
  exact ⟨a1, a2, c2, c3⟩

end Go.Proofs.YtahamffngmdjfaaDoor.W
