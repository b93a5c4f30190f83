/-
  ratio: Neg, Sign, Floor, Ceil, compareMagnitudes, Cmp, and the reference's gcd and Valid: what they return. Condition: the parts are ints.
-/
import Derived.Test.YthefkomalakfeaaQW
namespace Go.Proofs.Ythefkomalakfeaa.W
open Go.RowKit Go.Proofs.Ythefkomalakfeaa.Q

set_option maxHeartbeats 800000 in
theorem refGcd_any (a : Int) (b : Nat) (ha : -9223372036854775808 < a ∧ a ≤ 9223372036854775807) (hb : b ≤ 9223372036854775807) (w : World) : Calls Try.prog 47 #[.int .i64 a, .int .i64 b] w fun e w' => e = .returned (.int .i64 (Nat.gcd a.natAbs b : Nat)) ∧ ∃ k, w' = w.drewN k := by
  obtain ⟨a1, a2⟩ := ha
  obtain ⟨c, hc⟩ : ∃ c : Nat, c = a.natAbs := ⟨_, rfl⟩
  have hcb : c ≤ 9223372036854775807 := by omega
  rw [← hc]
  have HB := Lib.hid hb
  have HC := Lib.hid hcb
  clear hb
  have key : a < 0 ∧ IntKind.i64.wrap (-a) = (c : Int) ∨ a = (c : Int) := by
    rw [IntKind.wrap_i64]
    omega
  clear hcb
  rcases key with ⟨h, hw⟩ | h
  · clear hc
    have hd : decide (a < 0) = true := decide_eq_true h
    go_enter Try.func47, Try.ntmps47
    go_wp2
    clear hw hd
    go_loopw [0, 1] (fun x y wr => ∃ (m n k : Nat), x = .int .i64 m ∧ y = .int .i64 n ∧ m ≤ 9223372036854775807 ∧ n ≤ 9223372036854775807 ∧ Nat.gcd m n = Nat.gcd c b ∧ wr = w.drewN k) (fun _ y _ => (intOf y).toNat)
    case atStart => exact ⟨c, b, 0, rfl, rfl, HC.out, HB.out, rfl, rfl⟩
    case round =>
      obtain ⟨m, n, k, rfl, rfl, hm, hn, hg, rfl⟩ := hrel
      have HG := Lib.hid hg
      clear hg
      rcases Nat.eq_zero_or_pos n with h0 | h0
      · subst h0
        go_wp2
        go_ret
        have := HG.out
        rw [Nat.gcd_zero_right] at this
        exact ⟨by rw [this]; rfl, k, rfl⟩
      · have hne : ((n : Int) != 0) = true := by simp; omega
        have hz : (n : Int) ≠ 0 := by omega
        have hmod : IntKind.i64.wrap ((m : Int).tmod n) = ((m % n : Nat) : Int) := by
          rw [Int.tmod_eq_emod_of_nonneg (by omega), IntKind.wrap_i64]
          have := Nat.mod_lt m h0
          omega
        go_wp2_with fail
        go_region
        go_wp2
        go_roundw
        case rel => exact ⟨n, m % n, k + 1, rfl, by congr 1, hn, Nat.le_trans (Nat.le_of_lt (Nat.mod_lt m h0)) hn, by rw [gcd_turn]; exact HG.out, rfl⟩
        case measure => have := Nat.mod_lt m h0; simp [intOf]; omega
  · subst h
    clear hc
    have hd : decide ((c : Int) < 0) = false := decide_eq_false (by omega)
    go_enter Try.func47, Try.ntmps47
    go_wp2
    clear hd
    go_loopw [0, 1] (fun x y wr => ∃ (m n k : Nat), x = .int .i64 m ∧ y = .int .i64 n ∧ m ≤ 9223372036854775807 ∧ n ≤ 9223372036854775807 ∧ Nat.gcd m n = Nat.gcd c b ∧ wr = w.drewN k) (fun _ y _ => (intOf y).toNat)
    case atStart => exact ⟨c, b, 0, rfl, rfl, HC.out, HB.out, rfl, rfl⟩
    case round =>
      obtain ⟨m, n, k, rfl, rfl, hm, hn, hg, rfl⟩ := hrel
      have HG := Lib.hid hg
      clear hg
      rcases Nat.eq_zero_or_pos n with h0 | h0
      · subst h0
        go_wp2
        go_ret
        have := HG.out
        rw [Nat.gcd_zero_right] at this
        exact ⟨by rw [this]; rfl, k, rfl⟩
      · have hne : ((n : Int) != 0) = true := by simp; omega
        have hz : (n : Int) ≠ 0 := by omega
        have hmod : IntKind.i64.wrap ((m : Int).tmod n) = ((m % n : Nat) : Int) := by
          rw [Int.tmod_eq_emod_of_nonneg (by omega), IntKind.wrap_i64]
          have := Nat.mod_lt m h0
          omega
        go_wp2_with fail
        go_region
        go_wp2
        go_roundw
        case rel => exact ⟨n, m % n, k + 1, rfl, by congr 1, hn, Nat.le_trans (Nat.le_of_lt (Nat.mod_lt m h0)) hn, by rw [gcd_turn]; exact HG.out, rfl⟩
        case measure => have := Nat.mod_lt m h0; simp [intOf]; omega

theorem vld_iff (n d : Int) : Vld n d ↔ 1 ≤ d ∧ d ≤ 4611686018427387904 ∧ -4611686018427387904 ≤ n ∧ n ≤ 4611686018427387904 ∧ Nat.gcd n.natAbs d.natAbs = 1 := by
  unfold Vld
  rw [top_eq]
  constructor
  · rintro ⟨h1, h2, h3, h4⟩; exact ⟨h1, h2, by omega, by omega, h4⟩
  · rintro ⟨h1, h2, h3, h4, h5⟩; exact ⟨h1, h2, by omega, h5⟩

set_option maxHeartbeats 800000 in
theorem refValid_any (n d : Int) (hn : I64 n) (hd : I64 d) (w : World) : Calls Try.prog 22 #[raV n d] w fun e w' => e = .returned (.bool (decide (Vld n d))) ∧ Nw w w' := by
  have HG := Lib.hid (vld_iff n d)
  obtain ⟨n1, n2⟩ := hn
  obtain ⟨d1, d2⟩ := hd
  by_cases h1 : 1 ≤ d
  · have e1 : decide (d ≥ 1) = true := decide_eq_true h1
    by_cases h2 : d ≤ 4611686018427387904
    · have e2 : decide (d ≤ 4611686018427387904) = true := decide_eq_true h2
      by_cases h3 : -4611686018427387904 ≤ n
      · have e3 : decide (n ≥ -4611686018427387904) = true := decide_eq_true h3
        by_cases h4 : n ≤ 4611686018427387904
        · have e4 : decide (n ≤ 4611686018427387904) = true := decide_eq_true h4
          have HV := Lib.hid (show decide (Vld n d) = ((Nat.gcd n.natAbs d.natAbs : Int) == 1) by
            rw [decide_eq_decide.2 HG.out, Bool.eq_iff_iff, decide_eq_true_iff, beq_iff_eq]
            omega)
          have hc := fun w1 => refGcd_any n d.natAbs (by omega) (by omega) w1
          rw [show ((d.natAbs : Nat) : Int) = d by omega] at hc
          go_enter Try.func22, Try.ntmps22
          go_wp2_with (go_at_call 47; refine (hc _).mono ?_; rintro e w1 ⟨rfl, k, rfl⟩)
          go_ret
          refine ⟨congrArg (fun b => Ending.returned (.bool b)) ?_, (nw_alloc _ _).drewN _⟩
          rw [HV.out]
        · have e4 : decide (n ≤ 4611686018427387904) = false := decide_eq_false h4
          have e5 : decide (Vld n d) = false := decide_eq_false fun h => h4 (HG.out.1 h).2.2.2.1
          rw [e5]
          go_enter Try.func22, Try.ntmps22
          go_wp2
          go_ret
          exact ⟨rfl, nw_alloc _ _⟩
      · have e3 : decide (n ≥ -4611686018427387904) = false := decide_eq_false h3
        have e5 : decide (Vld n d) = false := decide_eq_false fun h => h3 (HG.out.1 h).2.2.1
        rw [e5]
        go_enter Try.func22, Try.ntmps22
        go_wp2
        go_ret
        exact ⟨rfl, nw_alloc _ _⟩
    · have e2 : decide (d ≤ 4611686018427387904) = false := decide_eq_false h2
      have e5 : decide (Vld n d) = false := decide_eq_false fun h => h2 (HG.out.1 h).2.1
      rw [e5]
      go_enter Try.func22, Try.ntmps22
      go_wp2
      go_ret
      exact ⟨rfl, nw_alloc _ _⟩
  · have e1 : decide (d ≥ 1) = false := decide_eq_false h1
    have e5 : decide (Vld n d) = false := decide_eq_false fun h => h1 (HG.out.1 h).1
    rw [e5]
    go_enter Try.func22, Try.ntmps22
    go_wp2
    go_ret
    exact ⟨rfl, nw_alloc _ _⟩

theorem vld_n {n d : Int} (h : Vld n d) : -4611686018427387904 ≤ n ∧ n ≤ 4611686018427387904 := ⟨((vld_iff n d).1 h).2.2.1, ((vld_iff n d).1 h).2.2.2.1⟩
theorem vld_d {n d : Int} (h : Vld n d) : 1 ≤ d ∧ d ≤ 4611686018427387904 := ⟨h.1, h.2.1⟩

end Go.Proofs.Ythefkomalakfeaa.W
