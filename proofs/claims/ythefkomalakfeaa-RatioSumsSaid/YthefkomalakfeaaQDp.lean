/-
  Division of two words by one, plain: how a digit of the quotient is found by an estimate, and the shift before it. No condition but the sizes.
-/
import Derived.Test.YthefkomalakfeaaQPl
import Derived.Lib.BitFns
import Derived.Laws.Bits64b
import Derived.Lib.ItoaNum
namespace Go.Proofs.Ythefkomalakfeaa.Q
open Go.RowKit

/-- q is an estimate of the digit u·B + v by Y = y1·B + y0, from above, and r what it leaves of u by y1 -/
structure Est (u v y1 y0 q r : Nat) : Prop where
  eq : u = q * y1 + r
  lt : r < 4294967296
  ge : (u * 4294967296 + v) / (y1 * 4294967296 + y0) ≤ q
  le : q ≤ 4294967297

theorem digit_lt {u v Y : Nat} (hu : u < Y) (hv : v < 4294967296) : (u * 4294967296 + v) / Y < 4294967296 := by
  rw [Nat.div_lt_iff_lt_mul (by omega)]
  have := Nat.mul_le_mul_right 4294967296 (show u + 1 ≤ Y by omega)
  rw [Nat.mul_comm 4294967296 Y]
  omega
theorem est_start {u v y1 y0 : Nat} (hu : u < y1 * 4294967296 + y0) (h1 : 2147483648 ≤ y1) (h2 : y1 < 4294967296) (h0 : y0 < 4294967296) (hv : v < 4294967296) : Est u v y1 y0 (u / y1) (u % y1) := by
  have e := Nat.div_add_mod' u y1
  have hm := Nat.mod_lt u (show 0 < y1 by omega)
  refine ⟨e.symm, by omega, ?_, ?_⟩
  · rw [← Nat.lt_add_one_iff, Nat.div_lt_iff_lt_mul (by omega)]
    have t : (u / y1 + 1) * (y1 * 4294967296 + y0) = (u / y1 + 1) * y1 * 4294967296 + (u / y1 + 1) * y0 := by rw [Nat.mul_add, Nat.mul_assoc]
    have t2 : (u / y1 + 1) * y1 = u / y1 * y1 + y1 := Nat.succ_mul _ _
    rw [t, t2]
    generalize (u / y1 + 1) * y0 = z
    generalize u / y1 * y1 = p at *
    omega
  · rw [← Nat.lt_add_one_iff, Nat.div_lt_iff_lt_mul (by omega)]
    omega
theorem est_done {u v y1 y0 q r : Nat} (h : Est u v y1 y0 q r) (h1 : 2147483648 ≤ y1) (hs : ¬ 4294967296 * r + v < q * y0) : q = (u * 4294967296 + v) / (y1 * 4294967296 + y0) := by
  refine Nat.le_antisymm ?_ h.ge
  rw [Nat.le_div_iff_mul_le (by omega)]
  have e := h.eq
  rw [Nat.mul_add, ← Nat.mul_assoc]
  generalize q * y1 = p at *
  generalize q * y0 = t at *
  omega
theorem est_next {u v y1 y0 q r : Nat} (h : Est u v y1 y0 q r) (hu : u < y1 * 4294967296 + y0) (hv : v < 4294967296) (h0 : y0 < 4294967296) (h1 : 2147483648 ≤ y1) (hs : ¬ q < 4294967296 ∨ 4294967296 * r + v < q * y0) :
    0 < q ∧ (r + y1 < 4294967296 → Est u v y1 y0 (q - 1) (r + y1)) ∧ (¬ r + y1 < 4294967296 → q - 1 = (u * 4294967296 + v) / (y1 * 4294967296 + y0)) := by
  have hd := digit_lt hu hv
  have hlt : (u * 4294967296 + v) / (y1 * 4294967296 + y0) < q := by
    rcases hs with hs | hs
    · omega
    · rw [Nat.div_lt_iff_lt_mul (by omega)]
      have e := h.eq
      rw [Nat.mul_add, ← Nat.mul_assoc]
      generalize q * y1 = p at *
      generalize q * y0 = t at *
      omega
  have hq := Nat.lt_of_le_of_lt (Nat.zero_le _) hlt
  obtain ⟨k, rfl⟩ : ∃ k, q = k + 1 := ⟨q - 1, by omega⟩
  have hQ := Nat.le_of_lt_succ hlt
  have e : u = k * y1 + (r + y1) := by have := h.eq; rw [Nat.succ_mul] at this; omega
  have hk := h.le
  refine ⟨by omega, fun hr => ⟨by rw [Nat.add_sub_cancel]; exact e, hr, by rw [Nat.add_sub_cancel]; exact hQ, by omega⟩, fun hr => ?_⟩
  rw [Nat.add_sub_cancel]
  refine Nat.le_antisymm ?_ hQ
  rw [Nat.le_div_iff_mul_le (by omega), Nat.mul_add, ← Nat.mul_assoc]
  have t := Nat.mul_le_mul (show k ≤ 4294967296 by omega) (show y0 ≤ 4294967295 by omega)
  generalize k * y1 = p at *
  generalize k * y0 = t at *
  omega
/-- what a digit leaves, reckoned in words -/
theorem rest_word (u v Y q : Nat) (hq : q = (u * 4294967296 + v) / Y) (hY : Y < 18446744073709551616) (h0 : 0 < Y) :
    IntKind.u64.wrap (IntKind.u64.wrap (IntKind.u64.wrap ((u : Int) * 4294967296) + v) - IntKind.u64.wrap ((q : Int) * Y)) = (((u * 4294967296 + v) % Y : Nat) : Int) := by
  have e := Nat.div_add_mod' (u * 4294967296 + v) Y
  have hm := Nat.mod_lt (u * 4294967296 + v) h0
  rw [← hq] at e
  have c : ((q : Int) * Y) = ((q * Y : Nat) : Int) := (Int.natCast_mul q Y).symm
  rw [c]
  generalize (u * 4294967296 + v) % Y = r at *
  generalize q * Y = m at *
  simp only [IntKind.wrap_u64]
  omega
/-- two digits make the quotient and what is left -/
theorem digits_two (H L Y : Nat) (hY : 0 < Y) :
    (H * 18446744073709551616 + L) / Y = (H * 4294967296 + L / 4294967296) / Y * 4294967296 + ((H * 4294967296 + L / 4294967296) % Y * 4294967296 + L % 4294967296) / Y ∧
    (H * 18446744073709551616 + L) % Y = ((H * 4294967296 + L / 4294967296) % Y * 4294967296 + L % 4294967296) % Y := by
  have e := Nat.div_add_mod (H * 4294967296 + L / 4294967296) Y
  have t : H * 18446744073709551616 + L = Y * ((H * 4294967296 + L / 4294967296) / Y * 4294967296) + ((H * 4294967296 + L / 4294967296) % Y * 4294967296 + L % 4294967296) := by
    rw [← Nat.mul_assoc]
    generalize Y * ((H * 4294967296 + L / 4294967296) / Y) = m at *
    generalize (H * 4294967296 + L / 4294967296) % Y = r at *
    omega
  rw [t]
  exact ⟨by rw [Nat.mul_add_div hY], by rw [Nat.mul_add_mod]⟩

/-- the divisor shifted to its full length, and the dividend with it -/
theorem shift_words (hi lo y s : Nat) (hlo : lo < 18446744073709551616) (hy : y < 18446744073709551616) (hlt : hi < y) (hs : s + Lib.bitLen y = 64) (hs2 : s ≤ 63) :
    9223372036854775808 ≤ y * 2 ^ s ∧ y * 2 ^ s < 18446744073709551616 ∧ hi * 2 ^ s + lo / 2 ^ (64 - s) < y * 2 ^ s ∧
    (hi * 18446744073709551616 + lo) * 2 ^ s = (hi * 2 ^ s + lo / 2 ^ (64 - s)) * 18446744073709551616 + lo * 2 ^ s % 18446744073709551616 ∧
    bits .or .u64 (IntKind.u64.wrap ((hi : Int) * 2 ^ s)) ((lo : Int) / 2 ^ (64 - s)) = ((hi * 2 ^ s + lo / 2 ^ (64 - s) : Nat) : Int) := by
  obtain ⟨b1, b2, b3⟩ := Lib.bitLenAux_bounds 64 y (by omega) (by omega)
  change 1 ≤ Lib.bitLen y at b1
  change 2 ^ (Lib.bitLen y - 1) ≤ y at b2
  change y < 2 ^ Lib.bitLen y at b3
  generalize Lib.bitLen y = n at *
  have p1 : 2 ^ n * 2 ^ s = 18446744073709551616 := by rw [← Nat.pow_add, show n + s = 64 by omega]
  have p2 : 2 ^ (n - 1) * 2 ^ s = 9223372036854775808 := by rw [← Nat.pow_add, show n - 1 + s = 63 by omega]
  have hn : 64 - s = n := by omega
  rw [hn]
  have hp : 0 < 2 ^ s := Nat.pow_pos (by omega)
  have hpn : 0 < 2 ^ n := Nat.pow_pos (by omega)
  have t1 := Nat.mul_le_mul_right (2 ^ s) b2
  have t2 := (Nat.mul_lt_mul_right hp).2 b3
  have t3 := Nat.mul_le_mul_right (2 ^ s) (show hi + 1 ≤ y by omega)
  rw [Nat.add_mul, Nat.one_mul] at t3
  have hq : lo / 2 ^ n < 2 ^ s := by
    rw [Nat.div_lt_iff_lt_mul hpn, Nat.mul_comm, p1]
    exact hlo
  have e := Nat.div_add_mod lo (2 ^ n)
  have hm := Nat.mod_lt lo hpn
  have hl : lo * 2 ^ s = lo / 2 ^ n * 18446744073709551616 + lo % 2 ^ n * 2 ^ s := by
    conv => lhs; rw [← e]
    rw [Nat.add_mul, Nat.mul_comm (2 ^ n), Nat.mul_assoc, p1]
  have hl2 : lo % 2 ^ n * 2 ^ s < 18446744073709551616 := by
    rw [← p1]
    exact (Nat.mul_lt_mul_right hp).2 hm
  have hor : hi * 2 ^ s ||| lo / 2 ^ n = hi * 2 ^ s + lo / 2 ^ n := by
    rw [Nat.mul_comm, Nat.two_pow_add_eq_or_of_lt hq]
  have c1 : (hi : Int) * 2 ^ s = ((hi * 2 ^ s : Nat) : Int) := by push_cast; rfl
  have c2 : (lo : Int) / 2 ^ n = ((lo / 2 ^ n : Nat) : Int) := by push_cast; rfl
  refine ⟨by omega, by omega, by omega, ?_, ?_⟩
  · rw [Nat.add_mul, hl, Nat.mul_right_comm]
    generalize hi * 2 ^ s = a at *
    generalize lo % 2 ^ n * 2 ^ s = b at *
    generalize lo / 2 ^ n = c at *
    omega
  · rw [c1, c2, show IntKind.u64.wrap ((hi * 2 ^ s : Nat) : Int) = ((hi * 2 ^ s : Nat) : Int) by rw [IntKind.wrap_u64]; omega, bits_or_u64_nat _ _ (by omega) (by omega), hor]
end Go.Proofs.Ythefkomalakfeaa.Q
