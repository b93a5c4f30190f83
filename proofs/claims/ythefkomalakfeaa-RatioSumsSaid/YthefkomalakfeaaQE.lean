/-
  math/bits.Div64, Rem64, Add64, Sub64: what they return, for every input at which they do not panic; Add64 and Sub64 with a carry of 0 or 1.
-/
import Derived.Test.YthefkomalakfeaaQD
import Derived.Shelf.Spec.BitsCarry
namespace Go.Proofs.Ythefkomalakfeaa.W
open Go.RowKit Go.Proofs.Ythefkomalakfeaa.Q

set_option maxRecDepth 100000 in
set_option maxHeartbeats 1600000 in
theorem div64_any (hi lo y : Nat) (hlo : lo < 18446744073709551616) (hy : y < 18446744073709551616) (hlt : hi < y) (w : World) :
    Calls Try.prog 72 #[.int .u64 hi, .int .u64 lo, .int .u64 y] w fun e w' => e = .returned (.tuple #[.int .u64 ((hi * 18446744073709551616 + lo) / y : Nat), .int .u64 ((hi * 18446744073709551616 + lo) % y : Nat)]) ∧ ∃ k, w' = w.drewN k := by
  by_cases h0 : hi = 0
  · subst h0
    rw [Nat.zero_mul, Nat.zero_add]
    have hy0 : ((y : Int) == 0) = false := by simp; omega
    have hz : ¬ y = 0 := by omega
    have hle : decide (y ≤ 0) = false := decide_eq_false (by omega)
    have d1 := divU' lo y hlo
    have d2 : IntKind.u64.wrap ((lo : Int) % y) = ((lo % y : Nat) : Int) := by rw [← Int.natCast_emod]; exact wrapU _ (by have := Nat.mod_le lo y; omega)
    have d4 : (lo : Int) % y = ((lo % y : Nat) : Int) := (Int.natCast_emod lo y).symm
    generalize lo / y = a at *
    generalize lo % y = b at *
    clear hlo hy hlt
    go_enter Try.func72, Try.ntmps72
    go_wp2_with fail
    go_quiet (fail)
    go_wp2
    go_ret2
    exact ⟨by rw [d4]; rfl, _, rfl⟩
  · have b1 := Lib.bitLen_le y 64 (by omega) (by omega)
    have b2 := (Lib.bitLenAux_bounds 64 y (by omega) (by omega)).1
    change 1 ≤ Lib.bitLen y at b2
    exact div64_high hi lo y (64 - Lib.bitLen y) hlo hy hlt h0 (by omega) (by omega) w

set_option maxHeartbeats 1600000 in
theorem rem64_any (hi lo y : Nat) (hhi : hi < 18446744073709551616) (hlo : lo < 18446744073709551616) (hy : y < 18446744073709551616) (h0 : 0 < y) (w : World) :
    Calls Try.prog 71 #[.int .u64 hi, .int .u64 lo, .int .u64 y] w fun e w' => e = .returned (.int .u64 ((hi * 18446744073709551616 + lo) % y : Nat)) ∧ ∃ k, w' = w.drewN k := by
  have hd := fun w1 => div64_any (hi % y) lo y hlo hy (Nat.mod_lt hi h0) w1
  have e : (hi % y * 18446744073709551616 + lo) % y = (hi * 18446744073709551616 + lo) % y := by
    rw [Nat.add_mod, Nat.mod_mul_mod, ← Nat.add_mod]
  rw [e] at hd
  have hz : ¬ y = 0 := by omega
  have d2 : IntKind.u64.wrap ((hi : Int) % y) = ((hi % y : Nat) : Int) := by rw [← Int.natCast_emod]; exact wrapU _ (by have := Nat.mod_le hi y; omega)
  have d4 : (hi : Int) % y = ((hi % y : Nat) : Int) := (Int.natCast_emod hi y).symm
  obtain ⟨r, hr⟩ : ∃ n, (hi * 18446744073709551616 + lo) % y = n := ⟨_, rfl⟩
  obtain ⟨q, hq⟩ : ∃ n, (hi % y * 18446744073709551616 + lo) / y = n := ⟨_, rfl⟩
  rw [hr]
  rw [hr, hq] at hd
  clear hr hq e
  generalize hi % y = h at *
  clear hhi hlo hy h0
  go_enter Try.func71, Try.ntmps71
  go_wp2_with fail
  with_reducible refine (hd _).mono ?_
  rintro e w1 ⟨rfl, k, rfl⟩
  go_wp2
  go_ret
  exact ⟨rfl, k, rfl⟩

/-- the sum of two words and a carry: the word, and the carry -/
theorem add64_any (x y c : Nat) (hc : c ≤ 1) (w : World) :
    (callFunc 82 #[.int .u64 x, .int .u64 y, .int .u64 c]).run Try.prog w =
      .ok (.value (.tuple #[.int .u64 (((x + y + c) % 18446744073709551616 : Nat) : Int), .int .u64 (((x + y + c) / 18446744073709551616 : Nat) : Int)])) w :=
  Any7.bits_Add64 Try.lays25 x y c hc w
def bor (x y b : Nat) : Nat := if x < y + b then 1 else 0
theorem sub64_any (x y b : Nat) (hb : b ≤ 1) (w : World) :
    (callFunc 83 #[.int .u64 x, .int .u64 y, .int .u64 b]).run Try.prog w =
      .ok (.value (.tuple #[.int .u64 (((x + 18446744073709551616 - y - b) % 18446744073709551616 : Nat) : Int), .int .u64 (bor x y b : Int)])) w :=
  Any7.bits_Sub64 Try.lays26 x y b hb w
end Go.Proofs.Ythefkomalakfeaa.W
