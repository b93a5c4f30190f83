/-
  seg and its reference: valid points, points that are compared, Whole, PointOf: what each returns. Condition: none.
  seg and its reference: lowest, PointOf, Whole; Meet and Share of seg. Conditions: for lowest, numbers within 2^61 and a denominator that is not 0.
-/
import Derived.Test.YthifljljaejfmaaJ09
import Derived.Test.YthifljljaejfmaaJ07
import Derived.BigRegion
namespace Go.Proofs.Ythifljljaejfmaa.W
open Go.RowKit Go.Proofs.Ythifljljaejfmaa.V Go.Proofs.Ythifljljaejfmaa.G

def isDen (d : Int) : Bool := decide (1 ≤ d) && decide (d ≤ 134217728)
def inPt (x y d m : Int) : Bool := isDen d && withinV x y (w64 (m * d))
def validP (x y d : Int) : Bool := inPt x y d 4000 && (gcd3 x y d == 1)
def nearP (x y d : Int) : Bool := inPt x y d 2000 && validP x y d
theorem den_iff (d : Int) : isDen d = true ↔ 1 ≤ d ∧ d ≤ 134217728 := by
  unfold isDen
  simp
theorem in_mid {x y d m : Int} (hm : 0 ≤ m ∧ m ≤ 4000) (h : inPt x y d m = true) : (1 ≤ d ∧ d ≤ 134217728) ∧ (-(m * d) ≤ x ∧ x ≤ m * d ∧ -(m * d) ≤ y ∧ y ≤ m * d) ∧ 0 ≤ m * d ∧ m * d ≤ 536870912000 := by
  unfold inPt at h
  rw [Bool.and_eq_true, den_iff] at h
  obtain ⟨h, g⟩ := h
  have a := Int.mul_nonneg hm.1 (show 0 ≤ d by omega)
  have b := Int.mul_le_mul hm.2 h.2 (by omega) (by omega)
  unfold withinV at g
  rw [w64_id (n := m * d) ⟨by omega, by omega⟩, w64_id (n := -(m * d)) ⟨by omega, by omega⟩] at g
  simp at g
  exact ⟨h, ⟨g.1.1.1, g.1.1.2, g.1.2, g.2⟩, a, by omega⟩

set_option maxHeartbeats 1600000 in
theorem isWithin_any (x y d m : Int) (w : World) : Calls Try.prog 41 #[pV x y d, .int .i64 m] w fun e w' => e = .returned (.bool (inPt x y d m)) ∧ Nw w w' := by
  have c2 := fun w1 => within_any x y (w64 (m * d)) w1
  have hw := i64_w (m * d)
  unfold inPt isDen
  generalize withinV x y (w64 (m * d)) = b at *
  generalize w64 (m * d) = z at *
  have hb0 := Blk.new_at w 31 #[.int .i64 x, .int .i64 y, .int .i64 d] (n := w.heap.size) (by simp)
  have hk0 : ∀ p : KeptW (w.alloc (.cells #[.int .i64 x, .int .i64 y, .int .i64 d] 31)), Blk p.wd (w.heap.size) 31 #[.int .i64 x, .int .i64 y, .int .i64 d] := fun p => hb0.kept p
  have q0 := fun p => (hk0 p).cell 0
  have q1 := fun p => (hk0 p).cell 1
  have q2 := fun p => (hk0 p).cell 2
  skip
  clear hb0 hk0
  by_cases h1 : 1 ≤ d
  · by_cases h2 : d ≤ 134217728
    · have e1 : decide (1 ≤ d) = true := decide_eq_true h1
      have e2 : decide (d ≤ 134217728) = true := decide_eq_true h2
      clear h1 h2
      go_enter Try.func41, Try.ntmps41
      go_wp2_with (first | (go_at_call 38; ((with_reducible refine (Calls.kept_first (c2 _)).mono ?_); rintro e _ ⟨rfl, p, rfl⟩)) | fail)
      go_ret
      exact ⟨by simp [e1, e2], ((nw_alloc _ _)).tr p.since⟩
    · have e1 : decide (1 ≤ d) = true := decide_eq_true h1
      have e2 : decide (d ≤ 134217728) = false := decide_eq_false h2
      clear h1 h2
      go_enter Try.func41, Try.ntmps41
      go_wp2
      go_ret
      exact ⟨by simp [e1, e2], by repeat (first | exact Kp.refl _ _ | refine Kp.alloc ?_ _)⟩
  · have e1 : decide (1 ≤ d) = false := decide_eq_false h1
    clear h1
    go_enter Try.func41, Try.ntmps41
    go_wp2
    go_ret
    exact ⟨by simp [e1], by repeat (first | exact Kp.refl _ _ | refine Kp.alloc ?_ _)⟩

set_option maxHeartbeats 1600000 in
theorem validPoint_any (x y d : Int) (w : World) : Calls Try.prog 23 #[pV x y d] w fun e w' => e = .returned (.bool (validP x y d)) ∧ Nw w w' := by
  have c1 := fun w1 => isWithin_any x y d 4000 w1
  have hmix := mixed7
  unfold validP
  have hb0 := Blk.new_at w 31 #[.int .i64 x, .int .i64 y, .int .i64 d] (n := w.heap.size) (by simp)
  have hk0 : ∀ p : KeptW (w.alloc (.cells #[.int .i64 x, .int .i64 y, .int .i64 d] 31)), Blk p.wd (w.heap.size) 31 #[.int .i64 x, .int .i64 y, .int .i64 d] := fun p => hb0.kept p
  have q0 := fun p => (hk0 p).cell 0
  have q1 := fun p => (hk0 p).cell 1
  have q2 := fun p => (hk0 p).cell 2
  skip
  clear hb0 hk0
  by_cases h : inPt x y d 4000 = true
  · obtain ⟨h1, h2, h3⟩ := in_mid (by omega) h
    have c2 := fun w1 => gcd_any x y (by unfold Mid; omega) (by unfold Mid; omega) w1
    have hg : ((Int.gcd x y : Nat) : Int) ≤ 536870912000 := by
      by_cases hx : x = 0
      · subst hx
        rw [Int.gcd_zero_left]
        omega
      · have := Int.gcd_le_natAbs_left y hx
        omega
    have c3 := fun w1 => gcd_any (Int.gcd x y : Nat) d (by unfold Mid; omega) (by unfold Mid; omega) w1
    have hr : (((Int.gcd (Int.gcd x y : Nat) d : Nat) : Int) == 1) = (gcd3 x y d == 1) := by
      unfold gcd3
      apply Bool.eq_iff_iff.2
      simp
      omega
    rw [h] at c1 ⊢
    clear h h1 h2 h3 hg
    generalize ((Int.gcd (Int.gcd x y : Nat) d : Nat) : Int) = r at *
    generalize ((Int.gcd x y : Nat) : Int) = s at *
    generalize (gcd3 x y d == 1) = z at *
    go_enter Try.func23, Try.ntmps23
    go_wp2_with fail
    refine wp_region_kept (Kp.refl _ _) (by assumption) (by kernel_rfl) ?_
    repeat (with_reducible refine wpQuiet_step (fun K hK => ?_); go_simp; first | ((with_reducible refine hK _ ?_); clear hK K) | (with_reducible apply Exists.intro; (with_reducible refine ⟨fun _ => ?_, hK _ ?_⟩); ((first | (go_at_call 41; with_reducible exact Calls.kept_of (c1 _)) | (go_at_call 42; with_reducible exact Calls.kept_of (c2 _)) | (go_at_call 42; with_reducible exact Calls.kept_of (c3 _)) | fail)); clear hK K))
    with_reducible refine wpQuiet_nil ?_
    rintro _ ⟨p, rfl⟩
    go_wp2
    go_ret
    exact ⟨by simp, ((nw_alloc _ _)).tr p.since⟩
  · rw [Bool.not_eq_true] at h
    rw [h] at c1 ⊢
    clear h
    go_enter Try.func23, Try.ntmps23
    go_wp2_with fail
    refine wp_region_kept (Kp.refl _ _) (by assumption) (by kernel_rfl) ?_
    repeat (with_reducible refine wpQuiet_step (fun K hK => ?_); go_simp; first | ((with_reducible refine hK _ ?_); clear hK K) | (with_reducible apply Exists.intro; (with_reducible refine ⟨fun _ => ?_, hK _ ?_⟩); ((first | (go_at_call 41; with_reducible exact Calls.kept_of (c1 _)) | fail)); clear hK K))
    with_reducible refine wpQuiet_nil ?_
    rintro _ ⟨p, rfl⟩
    go_wp2
    go_ret
    exact ⟨rfl, ((nw_alloc _ _)).tr p.since⟩

theorem near_eq (x y d : Int) : nearP x y d = (validP x y d && withinV x y (w64 (2000 * d))) := by
  unfold nearP inPt
  cases hv : validP x y d
  · simp
  · have h : inPt x y d 4000 = true := by unfold validP at hv; simp at hv; exact hv.1
    unfold inPt at h
    simp at h
    simp [h.1]
end Go.Proofs.Ythifljljaejfmaa.W

namespace Go.Proofs.Ythifljljaejfmaa.W
open Go.RowKit Go.Proofs.Ythifljljaejfmaa.V Go.Proofs.Ythifljljaejfmaa.G

theorem tdiv_near (a : Int) (g : Int) (h : -9223372036854775808 < a ∧ a ≤ 9223372036854775807) : IntKind.i64.wrap (a.tdiv g) = a.tdiv g ∧ wrap64 (a.tdiv g) = a.tdiv g := by
  have := Int.natAbs_tdiv_le_natAbs a g
  exact ⟨wrap_mid (by omega), by rw [w64_def, w64_id ⟨by omega, by omega⟩]⟩
theorem mid_gcd {x y M : Int} (hx : -M ≤ x ∧ x ≤ M) (hy : -M ≤ y ∧ y ≤ M) : ((Int.gcd x y : Nat) : Int) ≤ M := by
  by_cases hx0 : x = 0
  · subst hx0
    rw [Int.gcd_zero_left]
    omega
  · have := Int.gcd_le_natAbs_left y hx0
    omega
theorem abs_nat {x : Int} (h : -9223372036854775808 < x ∧ x ≤ 9223372036854775807) : absV x = ((x.natAbs : Nat) : Int) := by
  unfold absV
  split
  · omega
  · rw [w64_id ⟨by omega, by omega⟩]
    omega

end Go.Proofs.Ythifljljaejfmaa.W
