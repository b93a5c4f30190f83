/-
  Words: the functions of ratio and of its reference on numbers of one word: magnitude, gcd, Valid. Condition: the arguments fit their types.
-/
import Derived.Test.YthefkomalakfeaaHB
import Derived.Test.YthefkomalakfeaaQPl
import Derived.BigQuiet
import Derived.Test.YthefkomalakfeaaLayQ
import Derived.Shelf.Small.Wraps
import Derived.Shelf.Bits.Mul64
namespace Go.Proofs.Ythefkomalakfeaa.W
open Go.RowKit Go.Proofs.Ythefkomalakfeaa.Q

/-- a ratio as Go's struct -/
abbrev raV (n d : Int) : Value := .agg #[.int .i64 n, .int .i64 d]
/-- n is an int -/
def I64 (n : Int) : Prop := -9223372036854775808 ≤ n ∧ n ≤ 9223372036854775807
/-- n is a word -/
def U64 (n : Nat) : Prop := n < 18446744073709551616

theorem nw_drewN (w : World) (n : Nat) : Nw w (w.drewN n) := (Kp.refl _ w).drewN n
theorem nw_alloc (w : World) (o : Obj) : Nw w (w.alloc o) := (Kp.refl _ w).alloc o

theorem magnitude_any (n : Int) (hn : I64 n) (w : World) : Calls Try.prog 41 #[.int .i64 n] w fun e w' => e = .returned (.int .u64 (n.natAbs : Int)) ∧ w = w' := by
  obtain ⟨h1, h2⟩ := hn
  by_cases h : n < 0
  · have hd : decide (n < 0) = true := decide_eq_true h
    have hw : IntKind.u64.wrap (-IntKind.u64.wrap n) = (n.natAbs : Int) := by rw [IntKind.wrap_u64, IntKind.wrap_u64]; omega
    go_enter Try.func41, Try.ntmps41
    go_wp2
    go_ret
    exact ⟨rfl, rfl⟩
  · have hd : decide (n < 0) = false := decide_eq_false h
    have hw : IntKind.u64.wrap n = (n.natAbs : Int) := by rw [IntKind.wrap_u64]; omega
    go_enter Try.func41, Try.ntmps41
    go_wp2
    go_ret
    exact ⟨rfl, rfl⟩

theorem gcd_turn (m n : Nat) : Nat.gcd n (m % n) = Nat.gcd m n := by rw [Nat.gcd_comm m n, Nat.gcd_rec n m, Nat.gcd_comm]

set_option maxHeartbeats 800000 in
theorem gcd_any (a b : Nat) (ha : U64 a) (hb : U64 b) (w : World) : Calls Try.prog 42 #[.int .u64 a, .int .u64 b] w fun e w' => e = .returned (.int .u64 (Nat.gcd a b : Nat)) ∧ ∃ k, w' = w.drewN k := by
  have HA := Lib.hid ha
  have HB := Lib.hid hb
  clear ha hb
  go_enter Try.func42, Try.ntmps42
  go_wp2
  go_loopw [0, 1] (fun x y wr => ∃ (m n k : Nat), x = .int .u64 m ∧ y = .int .u64 n ∧ m < 18446744073709551616 ∧ n < 18446744073709551616 ∧ Nat.gcd m n = Nat.gcd a b ∧ wr = w.drewN k) (fun _ y _ => (intOf y).toNat)
  case atStart => exact ⟨a, b, 0, rfl, rfl, HA.out, HB.out, rfl, rfl⟩
  case round =>
    obtain ⟨m, n, k, rfl, rfl, hm, hn, hg, rfl⟩ := hrel
    have HG := Lib.hid hg
    clear hg
    rcases Nat.eq_zero_or_pos n with h0 | h0
    · subst h0
      go_wp2
      go_ret
      have := HG.out
      rw [Nat.gcd_zero_right] at this
      exact ⟨by rw [this]; rfl, k, rfl⟩
    · have hne : ((n : Int) != 0) = true := by simp; omega
      have hz : (n : Int) ≠ 0 := by omega
      have hmod : IntKind.u64.wrap ((m : Int).tmod n) = ((m % n : Nat) : Int) := by
        rw [Int.tmod_eq_emod_of_nonneg (by omega), IntKind.wrap_u64]
        have := Nat.mod_lt m h0
        omega
      go_wp2_with fail
      go_region
      go_wp2
      go_roundw
      case rel => exact ⟨n, m % n, k + 1, rfl, rfl, hn, Nat.lt_trans (Nat.mod_lt m h0) hn, by rw [gcd_turn]; exact HG.out, rfl⟩
      case measure => have := Nat.mod_lt m h0; simp [intOf]; omega

set_option maxHeartbeats 800000 in
theorem valid_any (n d : Int) (hn : I64 n) (hd : I64 d) (w : World) : Calls Try.prog 21 #[raV n d] w fun e w' => e = .returned (.bool (decide (Vld n d))) ∧ Nw w w' := by
  have hg : Vld n d ↔ 0 < d ∧ d ≤ 4611686018427387904 ∧ n.natAbs ≤ 4611686018427387904 ∧ Nat.gcd n.natAbs d.natAbs = 1 := Iff.rfl
  have hN := hn
  obtain ⟨n1, n2⟩ := hn
  obtain ⟨d1, d2⟩ := hd
  have HG := Lib.hid hg
  clear hg
  by_cases h1 : 0 < d
  · have e1 : decide (d > 0) = true := decide_eq_true h1
    by_cases h2 : d ≤ 4611686018427387904
    · have e2 : decide (d ≤ 4611686018427387904) = true := decide_eq_true h2
      by_cases h3 : n.natAbs ≤ 4611686018427387904
      · have e3 : decide ((n.natAbs : Int) ≤ 4611686018427387904) = true := decide_eq_true (by omega)
        have e4 : IntKind.u64.wrap d = (d.natAbs : Int) := by rw [IntKind.wrap_u64]; omega
        have HV := Lib.hid (show decide (Vld n d) = ((Nat.gcd n.natAbs d.natAbs : Int) == 1) by
          rw [decide_eq_decide.2 HG.out, Bool.eq_iff_iff, decide_eq_true_iff, beq_iff_eq]
          omega)
        go_enter Try.func21, Try.ntmps21
        go_wp2_with (first
          | (go_at_call 41; refine (magnitude_any n hN _).mono ?_; rintro e w1 ⟨rfl, rfl⟩)
          | (go_at_call 42; refine (gcd_any n.natAbs d.natAbs (by unfold U64; omega) (by unfold U64; omega) _).mono ?_; rintro e w1 ⟨rfl, k, rfl⟩))
        go_ret
        refine ⟨congrArg (fun b => Ending.returned (.bool b)) ?_, (nw_alloc _ _).drewN _⟩
        rw [HV.out]
      · have e3 : decide ((n.natAbs : Int) ≤ 4611686018427387904) = false := decide_eq_false (by omega)
        have e5 : decide (Vld n d) = false := decide_eq_false fun h => h3 (HG.out.1 h).2.2.1
        rw [e5]
        go_enter Try.func21, Try.ntmps21
        go_wp2_with (go_at_call 41; refine (magnitude_any n hN _).mono ?_; rintro e w1 ⟨rfl, rfl⟩)
        go_ret
        exact ⟨rfl, nw_alloc _ _⟩
    · have e2 : decide (d ≤ 4611686018427387904) = false := decide_eq_false h2
      have e5 : decide (Vld n d) = false := decide_eq_false fun h => h2 (HG.out.1 h).2.1
      rw [e5]
      go_enter Try.func21, Try.ntmps21
      go_wp2_with (go_at_call 41; refine (magnitude_any n hN _).mono ?_; rintro e w1 ⟨rfl, rfl⟩)
      go_ret
      exact ⟨rfl, nw_alloc _ _⟩
  · have e1 : decide (d > 0) = false := decide_eq_false h1
    have e5 : decide (Vld n d) = false := decide_eq_false fun h => h1 (HG.out.1 h).1
    rw [e5]
    go_enter Try.func21, Try.ntmps21
    go_wp2_with (go_at_call 41; refine (magnitude_any n hN _).mono ?_; rintro e w1 ⟨rfl, rfl⟩)
    go_ret
    exact ⟨rfl, nw_alloc _ _⟩

/-- a ratio and an error, as a call returns them -/
abbrev resV (r : Trp) : Value := .tuple #[raV r.1 r.2.1, .int .i64 r.2.2]
/-- the parts, with a sign, if both are in range -/
def lowR (neg : Bool) (n d : Nat) : Trp := if n ≤ 4611686018427387904 ∧ d ≤ 4611686018427387904 then (if neg then -(n : Int) else n, d, 0) else (0, 0, 2)

set_option maxHeartbeats 800000 in
theorem lowest_any (neg : Bool) (n d : Nat) (hn : U64 n) (hd : U64 d) (w : World) : Calls Try.prog 44 #[.bool neg, .int .u64 n, .int .u64 d] w fun e w' => e = .returned (resV (lowR neg n d)) ∧ Nw w w' := by
  have hl : lowR neg n d = (if n ≤ 4611686018427387904 ∧ d ≤ 4611686018427387904 then (if neg then -(n : Int) else n, (d : Int), 0) else (0, 0, 2) : Trp) := rfl
  unfold U64 at hn hd
  by_cases h1 : n ≤ 4611686018427387904
  · have e1 : decide ((n : Int) > 4611686018427387904) = false := decide_eq_false (by omega)
    by_cases h2 : d ≤ 4611686018427387904
    · have e2 : decide ((d : Int) > 4611686018427387904) = false := decide_eq_false (by omega)
      rw [if_pos ⟨h1, h2⟩] at hl
      rw [hl]
      clear hl
      have e3 : IntKind.i64.wrap (n : Int) = n := by rw [IntKind.wrap_i64]; omega
      have e4 : IntKind.i64.wrap (d : Int) = d := by rw [IntKind.wrap_i64]; omega
      have e5 : IntKind.i64.wrap (-(n : Int)) = -(n : Int) := by rw [IntKind.wrap_i64]; omega
      cases neg
      · go_enter Try.func44, Try.ntmps44
        go_wp2
        exact bodyPost_ret (v := resV ((n : Int), d, 0)) (by simp [results, Try.results44, go_sem]) rfl ⟨rfl, (nw_alloc _ _).alloc _⟩
      · go_enter Try.func44, Try.ntmps44
        go_wp2
        exact bodyPost_ret (v := resV (-(n : Int), d, 0)) (by simp [results, Try.results44, go_sem]) rfl ⟨rfl, (nw_alloc _ _).alloc _⟩
    · have e2 : decide ((d : Int) > 4611686018427387904) = true := decide_eq_true (by omega)
      rw [if_neg (fun h => h2 h.2)] at hl
      rw [hl]
      clear hl
      go_enter Try.func44, Try.ntmps44
      go_wp2
      exact bodyPost_ret (v := resV (0, 0, 2)) (by simp [results, Try.results44, go_sem]) rfl ⟨rfl, nw_alloc _ _⟩
  · have e1 : decide ((n : Int) > 4611686018427387904) = true := decide_eq_true (by omega)
    rw [if_neg (fun h => h1 h.1)] at hl
    rw [hl]
    clear hl
    go_enter Try.func44, Try.ntmps44
    go_wp2
    exact bodyPost_ret (v := resV (0, 0, 2)) (by simp [results, Try.results44, go_sem]) rfl ⟨rfl, nw_alloc _ _⟩

theorem mul64_any (x y : Nat) (hx : U64 x) (hy : U64 y) (w : World) : Calls Try.prog 43 #[.int .u64 x, .int .u64 y] w fun e w' => e = .returned (.tuple #[.int .u64 ((x * y / 18446744073709551616 : Nat) : Int), .int .u64 ((x * y % 18446744073709551616 : Nat) : Int)]) ∧ w = w' :=
  (Any.bits_Mul64 Try.lays264 x y hx hy w).mono fun _ _ ⟨h, h'⟩ => ⟨h, h'.symm⟩
theorem compareInt_any (x y : Int) (w : World) : Calls Try.prog 48 #[.int .i64 x, .int .i64 y] w fun e w' => e = .returned (.int .i64 (sgn (x - y))) ∧ w = w' :=
  (Any.cmp_Compare_int Try.lays122 x y w).mono fun _ _ ⟨h, h'⟩ => ⟨by
    rw [h]
    unfold Lib.compareInt sgn
    congr 2
    grind, h'.symm⟩

/-- a step of Go's comparison of words -/
theorem isNaN_any (x : Nat) (w : World) : Calls Try.prog 70 #[.int .u64 x] w fun e w' => e = .returned (.bool false) ∧ w = w' := by
  go_enter Try.func70, Try.ntmps70
  go_wp2
  go_ret
  exact ⟨by simp, rfl⟩
theorem compareWord_any (x y : Nat) (w : World) : Calls Try.prog 61 #[.int .u64 x, .int .u64 y] w fun e w' => e = .returned (.int .i64 (sgn ((x : Int) - y))) ∧ w = w' := by
  have hs : sgn ((x : Int) - y) = if x < y then -1 else if x = y then 0 else 1 := by unfold sgn; grind
  rcases Nat.lt_trichotomy x y with h | h | h
  · rw [hs, if_pos h]
    have e1 : decide ((x : Int) < y) = true := decide_eq_true (by omega)
    clear hs
    go_enter Try.func61, Try.ntmps61
    go_wp2_with (go_at_call 70; refine (isNaN_any _ _).mono ?_; rintro e w1 ⟨rfl, rfl⟩)
    go_ret
    exact ⟨rfl, rfl⟩
  · subst h
    rw [hs, if_neg (Nat.lt_irrefl x), if_pos rfl]
    clear hs
    have e1 : decide ((x : Int) < x) = false := decide_eq_false (by omega)
    have e2 : decide ((x : Int) > x) = false := decide_eq_false (by omega)
    go_enter Try.func61, Try.ntmps61
    go_wp2_with (go_at_call 70; refine (isNaN_any _ _).mono ?_; rintro e w1 ⟨rfl, rfl⟩)
    go_ret
    exact ⟨rfl, rfl⟩
  · rw [hs, if_neg (by omega), if_neg (by omega)]
    have e1 : decide ((x : Int) < y) = false := decide_eq_false (by omega)
    have e2 : decide ((x : Int) > y) = true := decide_eq_true (by omega)
    clear hs
    go_enter Try.func61, Try.ntmps61
    go_wp2_with (go_at_call 70; refine (isNaN_any _ _).mono ?_; rintro e w1 ⟨rfl, rfl⟩)
    go_ret
    exact ⟨rfl, rfl⟩
end Go.Proofs.Ythefkomalakfeaa.W
