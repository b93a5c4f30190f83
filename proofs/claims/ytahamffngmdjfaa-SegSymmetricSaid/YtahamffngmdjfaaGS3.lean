/-
  seg and its reference: valid points, points that are compared, Whole, PointOf: what each returns. Condition: none.
-/
import Derived.Test.YtahamffngmdjfaaGS2
namespace Go.Proofs.Ytahamffngmdjfaa.W
open Go.RowKit Go.Proofs.Ytahamffngmdjfaa.V Go.Proofs.Ytahamffngmdjfaa.G

def isDen (d : Int) : Bool := decide (1 ≤ d) && decide (d ≤ 134217728)
def inPt (x y d m : Int) : Bool := isDen d && withinV x y (w64 (m * d))
def validP (x y d : Int) : Bool := inPt x y d 4000 && (gcd3 x y d == 1)
def nearP (x y d : Int) : Bool := inPt x y d 2000 && validP x y d
theorem den_iff (d : Int) : isDen d = true ↔ 1 ≤ d ∧ d ≤ 134217728 := by
  unfold isDen
  simp
theorem in_mid {x y d m : Int} (hm : 0 ≤ m ∧ m ≤ 4000) (h : inPt x y d m = true) : (1 ≤ d ∧ d ≤ 134217728) ∧ (-(m * d) ≤ x ∧ x ≤ m * d ∧ -(m * d) ≤ y ∧ y ≤ m * d) ∧ 0 ≤ m * d ∧ m * d ≤ 536870912000 := by
  unfold inPt at h
  rw [Bool.and_eq_true, den_iff] at h
  obtain ⟨h, g⟩ := h
  have a := Int.mul_nonneg hm.1 (show 0 ≤ d by omega)
  have b := Int.mul_le_mul hm.2 h.2 (by omega) (by omega)
  unfold withinV at g
  rw [w64_id (n := m * d) ⟨by omega, by omega⟩, w64_id (n := -(m * d)) ⟨by omega, by omega⟩] at g
  simp at g
  exact ⟨h, ⟨g.1.1.1, g.1.1.2, g.1.2, g.2⟩, a, by omega⟩

set_option maxHeartbeats 1600000 in
theorem isWithin_any (x y d m : Int) (w : World) : Calls Try.prog 106 #[pV x y d, .int .i64 m] w fun e w' => e = .returned (.bool (inPt x y d m)) ∧ Nw w w' := by
  have c2 := fun w1 => within_any x y (w64 (m * d)) w1
  have hw := i64_w (m * d)
  unfold inPt isDen
  generalize withinV x y (w64 (m * d)) = b at *
  generalize w64 (m * d) = z at *
  have hb0 := Blk.new_at w 50 #[.int .i64 x, .int .i64 y, .int .i64 d] (n := w.heap.size) (by simp)
  have hk0 : ∀ p : KeptW (w.alloc (.cells #[.int .i64 x, .int .i64 y, .int .i64 d] 50)), Blk p.wd (w.heap.size) 50 #[.int .i64 x, .int .i64 y, .int .i64 d] := fun p => hb0.kept p
  have q0 := fun p => (hk0 p).cell 0
  have q1 := fun p => (hk0 p).cell 1
  have q2 := fun p => (hk0 p).cell 2
  skip
  clear hb0 hk0
  by_cases h1 : 1 ≤ d
  · by_cases h2 : d ≤ 134217728
    · have e1 : decide (1 ≤ d) = true := decide_eq_true h1
      have e2 : decide (d ≤ 134217728) = true := decide_eq_true h2
      clear h1 h2
      go_enter Try.func106, Try.ntmps106
      go_wp2_with (first | (go_at_call 42; ((with_reducible refine (Calls.kept_first (c2 _)).mono ?_); rintro e _ ⟨rfl, p, rfl⟩)) | fail)
      go_ret
      exact ⟨by simp [e1, e2], ((nw_alloc _ _)).tr p.since⟩
    · have e1 : decide (1 ≤ d) = true := decide_eq_true h1
      have e2 : decide (d ≤ 134217728) = false := decide_eq_false h2
      clear h1 h2
      go_enter Try.func106, Try.ntmps106
      go_wp2
      go_ret
      exact ⟨by simp [e1, e2], by repeat (first | exact Kp.refl _ _ | refine Kp.alloc ?_ _)⟩
  · have e1 : decide (1 ≤ d) = false := decide_eq_false h1
    clear h1
    go_enter Try.func106, Try.ntmps106
    go_wp2
    go_ret
    exact ⟨by simp [e1], by repeat (first | exact Kp.refl _ _ | refine Kp.alloc ?_ _)⟩

set_option maxHeartbeats 1600000 in
theorem validPoint_any (x y d : Int) (w : World) : Calls Try.prog 68 #[pV x y d] w fun e w' => e = .returned (.bool (validP x y d)) ∧ Nw w w' := by
  have c1 := fun w1 => isWithin_any x y d 4000 w1
  have hmix := mixed7
  unfold validP
  have hb0 := Blk.new_at w 50 #[.int .i64 x, .int .i64 y, .int .i64 d] (n := w.heap.size) (by simp)
  have hk0 : ∀ p : KeptW (w.alloc (.cells #[.int .i64 x, .int .i64 y, .int .i64 d] 50)), Blk p.wd (w.heap.size) 50 #[.int .i64 x, .int .i64 y, .int .i64 d] := fun p => hb0.kept p
  have q0 := fun p => (hk0 p).cell 0
  have q1 := fun p => (hk0 p).cell 1
  have q2 := fun p => (hk0 p).cell 2
  skip
  clear hb0 hk0
  by_cases h : inPt x y d 4000 = true
  · obtain ⟨h1, h2, h3⟩ := in_mid (by omega) h
    have c2 := fun w1 => gcd_any x y (by unfold Mid; omega) (by unfold Mid; omega) w1
    have hg : ((Int.gcd x y : Nat) : Int) ≤ 536870912000 := by
      by_cases hx : x = 0
      · subst hx
        rw [Int.gcd_zero_left]
        omega
      · have := Int.gcd_le_natAbs_left y hx
        omega
    have c3 := fun w1 => gcd_any (Int.gcd x y : Nat) d (by unfold Mid; omega) (by unfold Mid; omega) w1
    have hr : (((Int.gcd (Int.gcd x y : Nat) d : Nat) : Int) == 1) = (gcd3 x y d == 1) := by
      unfold gcd3
      apply Bool.eq_iff_iff.2
      simp
      omega
    rw [h] at c1 ⊢
    clear h h1 h2 h3 hg
    generalize ((Int.gcd (Int.gcd x y : Nat) d : Nat) : Int) = r at *
    generalize ((Int.gcd x y : Nat) : Int) = s at *
    generalize (gcd3 x y d == 1) = z at *
    go_enter Try.func68, Try.ntmps68
    go_wp2_with fail
    refine wp_region_kept (Kp.refl _ _) (by assumption) (by kernel_rfl) ?_
    repeat (with_reducible refine wpQuiet_step (fun K hK => ?_); go_simp; first | ((with_reducible refine hK _ ?_); clear hK K) | (with_reducible apply Exists.intro; (with_reducible refine ⟨fun _ => ?_, hK _ ?_⟩); ((first | (go_at_call 106; with_reducible exact Calls.kept_of (c1 _)) | (go_at_call 107; with_reducible exact Calls.kept_of (c2 _)) | (go_at_call 107; with_reducible exact Calls.kept_of (c3 _)) | fail)); clear hK K))
    with_reducible refine wpQuiet_nil ?_
    rintro _ ⟨p, rfl⟩
    go_wp2
    go_ret
    exact ⟨by simp, ((nw_alloc _ _)).tr p.since⟩
  · rw [Bool.not_eq_true] at h
    rw [h] at c1 ⊢
    clear h
    go_enter Try.func68, Try.ntmps68
    go_wp2_with fail
    refine wp_region_kept (Kp.refl _ _) (by assumption) (by kernel_rfl) ?_
    repeat (with_reducible refine wpQuiet_step (fun K hK => ?_); go_simp; first | ((with_reducible refine hK _ ?_); clear hK K) | (with_reducible apply Exists.intro; (with_reducible refine ⟨fun _ => ?_, hK _ ?_⟩); ((first | (go_at_call 106; with_reducible exact Calls.kept_of (c1 _)) | fail)); clear hK K))
    with_reducible refine wpQuiet_nil ?_
    rintro _ ⟨p, rfl⟩
    go_wp2
    go_ret
    exact ⟨rfl, ((nw_alloc _ _)).tr p.since⟩

set_option maxHeartbeats 1600000 in
theorem isCompared_any (x y d : Int) (w : World) : Calls Try.prog 109 #[pV x y d] w fun e w' => e = .returned (.bool (nearP x y d)) ∧ Nw w w' := by
  have c1 := fun w1 => isWithin_any x y d 2000 w1
  have c2 := fun w1 => validPoint_any x y d w1
  unfold nearP
  generalize inPt x y d 2000 = a at *
  generalize validP x y d = b at *
  have hb0 := Blk.new_at w 50 #[.int .i64 x, .int .i64 y, .int .i64 d] (n := w.heap.size) (by simp)
  have hk0 : ∀ p : KeptW (w.alloc (.cells #[.int .i64 x, .int .i64 y, .int .i64 d] 50)), Blk p.wd (w.heap.size) 50 #[.int .i64 x, .int .i64 y, .int .i64 d] := fun p => hb0.kept p
  have q0 := fun p => (hk0 p).cell 0
  have q1 := fun p => (hk0 p).cell 1
  have q2 := fun p => (hk0 p).cell 2
  skip
  clear hb0 hk0
  cases a
  · go_enter Try.func109, Try.ntmps109
    go_wp2_with (first | (go_at_call 106; ((with_reducible refine (Calls.kept_first (c1 _)).mono ?_); rintro e _ ⟨rfl, p, rfl⟩)) | (go_at_call 68; ((with_reducible refine (Calls.kept_of (c2 _)).mono ?_); rintro e _ ⟨rfl, p, rfl⟩)) | fail)
    go_ret
    exact ⟨by simp, ((nw_alloc _ _)).tr p.since⟩
  · go_enter Try.func109, Try.ntmps109
    go_wp2_with (first | (go_at_call 106; ((with_reducible refine (Calls.kept_first (c1 _)).mono ?_); rintro e _ ⟨rfl, p, rfl⟩)) | (go_at_call 68; ((with_reducible refine (Calls.kept_of (c2 _)).mono ?_); rintro e _ ⟨rfl, p, rfl⟩)) | fail)
    go_ret
    exact ⟨by simp, ((nw_alloc _ _)).tr p.since⟩

set_option maxHeartbeats 3200000 in
theorem rvalidPoint_any (x y d : Int) (w : World) : Calls Try.prog 69 #[pV x y d] w fun e w' => e = .returned (.bool (validP x y d)) ∧ Nw w w' := by
  have hmix := mixed7
  have hb0 := Blk.new_at w 50 #[.int .i64 x, .int .i64 y, .int .i64 d] (n := w.heap.size) (by simp)
  have hk0 : ∀ p : KeptW (w.alloc (.cells #[.int .i64 x, .int .i64 y, .int .i64 d] 50)), Blk p.wd (w.heap.size) 50 #[.int .i64 x, .int .i64 y, .int .i64 d] := fun p => hb0.kept p
  have q0 := fun p => (hk0 p).cell 0
  have q1 := fun p => (hk0 p).cell 1
  have q2 := fun p => (hk0 p).cell 2
  skip
  clear hb0 hk0
  by_cases h1 : d < 1
  · have e1 : decide (d < 1) = true := decide_eq_true h1
    have hv : validP x y d = false := by unfold validP inPt isDen; rw [decide_eq_false (show ¬ 1 ≤ d by omega)]; rfl
    rw [hv]
    clear h1 hv
    go_enter Try.func69, Try.ntmps69
    go_wp2
    go_ret
    exact ⟨rfl, by repeat (first | exact Kp.refl _ _ | refine Kp.alloc ?_ _)⟩
  by_cases h2 : d > 134217728
  · have e1 : decide (d < 1) = false := decide_eq_false h1
    have e2 : decide (d > 134217728) = true := decide_eq_true h2
    have hv : validP x y d = false := by unfold validP inPt isDen; rw [decide_eq_false (show ¬ d ≤ 134217728 by omega)]; simp
    rw [hv]
    clear h1 h2 hv
    go_enter Try.func69, Try.ntmps69
    go_wp2
    go_ret
    exact ⟨rfl, by repeat (first | exact Kp.refl _ _ | refine Kp.alloc ?_ _)⟩
  obtain ⟨l, hl⟩ : ∃ l, -4000 * d = l := ⟨_, rfl⟩
  obtain ⟨u, hu⟩ : ∃ u, 4000 * d = u := ⟨_, rfl⟩
  have hb : -536870912000 ≤ l ∧ u ≤ 536870912000 := by omega
  have m1 : IntKind.i64.wrap (-4000 * d) = l := by rw [← hl]; exact wrap_mid (by omega)
  have m2 : IntKind.i64.wrap (4000 * d) = u := by rw [← hu]; exact wrap_mid (by omega)
  have m3 : wrap64 (-4000 * d) = l := by rw [← hl, w64_def, w64_id ⟨by omega, by omega⟩]
  have m4 : wrap64 (4000 * d) = u := by rw [← hu, w64_def, w64_id ⟨by omega, by omega⟩]
  have hin : inPt x y d 4000 = (decide (l ≤ x) && decide (x ≤ u) && decide (l ≤ y) && decide (y ≤ u)) := by
    unfold inPt withinV
    rw [(den_iff d).2 ⟨by omega, by omega⟩, w64_id (n := 4000 * d) ⟨by omega, by omega⟩, w64_id (n := -(4000 * d)) ⟨by omega, by omega⟩, show -(4000 * d) = l by omega, hu]
    rfl
  have hdd : 0 ≤ d ∧ d ≤ 134217728 := by omega
  clear hl hu
  have e1 : decide (d < 1) = false := decide_eq_false h1
  have e2 : decide (d > 134217728) = false := decide_eq_false h2
  by_cases g0 : x < l
  · have hv : validP x y d = false := by unfold validP; rw [hin, decide_eq_false (show ¬ l ≤ x by omega)]; simp
    rw [hv]
    have f0 : decide (x < l) = true := decide_eq_true g0
    clear h1 h2 hv hin hb hdd g0
    go_enter Try.func69, Try.ntmps69
    go_wp2
    go_ret
    exact ⟨rfl, by repeat (first | exact Kp.refl _ _ | refine Kp.alloc ?_ _)⟩
  by_cases g1 : u < x
  · have hv : validP x y d = false := by unfold validP; rw [hin, decide_eq_false (show ¬ x ≤ u by omega)]; simp
    rw [hv]
    have f0 : decide (x < l) = false := decide_eq_false g0
    have f1 : decide (u < x) = true := decide_eq_true g1
    clear h1 h2 hv hin hb hdd g0 g1
    go_enter Try.func69, Try.ntmps69
    go_wp2
    go_ret
    exact ⟨rfl, by repeat (first | exact Kp.refl _ _ | refine Kp.alloc ?_ _)⟩
  by_cases g2 : y < l
  · have hv : validP x y d = false := by unfold validP; rw [hin, decide_eq_false (show ¬ l ≤ y by omega)]; simp
    rw [hv]
    have f0 : decide (x < l) = false := decide_eq_false g0
    have f1 : decide (u < x) = false := decide_eq_false g1
    have f2 : decide (y < l) = true := decide_eq_true g2
    clear h1 h2 hv hin hb hdd g0 g1 g2
    go_enter Try.func69, Try.ntmps69
    go_wp2
    go_ret
    exact ⟨rfl, by repeat (first | exact Kp.refl _ _ | refine Kp.alloc ?_ _)⟩
  by_cases g3 : u < y
  · have hv : validP x y d = false := by unfold validP; rw [hin, decide_eq_false (show ¬ y ≤ u by omega)]; simp
    rw [hv]
    have f0 : decide (x < l) = false := decide_eq_false g0
    have f1 : decide (u < x) = false := decide_eq_false g1
    have f2 : decide (y < l) = false := decide_eq_false g2
    have f3 : decide (u < y) = true := decide_eq_true g3
    clear h1 h2 hv hin hb hdd g0 g1 g2 g3
    go_enter Try.func69, Try.ntmps69
    go_wp2
    go_ret
    exact ⟨rfl, by repeat (first | exact Kp.refl _ _ | refine Kp.alloc ?_ _)⟩
  have hv : validP x y d = (gcd3 x y d == 1) := by
    unfold validP
    rw [hin, decide_eq_true (show l ≤ x by omega), decide_eq_true (show x ≤ u by omega), decide_eq_true (show l ≤ y by omega), decide_eq_true (show y ≤ u by omega)]
    rfl
  rw [hv]
  have ax : absV x = (x.natAbs : Nat) := by unfold absV; split; · omega
                                            · rw [w64_id ⟨by omega, by omega⟩]; omega
  have ay : absV y = (y.natAbs : Nat) := by unfold absV; split; · omega
                                            · rw [w64_id ⟨by omega, by omega⟩]; omega
  have a1 := fun w1 => rabs_any x w1
  have a2 := fun w1 => rabs_any y w1
  rw [ax] at a1
  rw [ay] at a2
  have hgc : Int.gcd (x.natAbs : Nat) (y.natAbs : Nat) = Int.gcd x y := by show Nat.gcd (x.natAbs : Int).natAbs (y.natAbs : Int).natAbs = _; rw [Int.natAbs_natCast, Int.natAbs_natCast]; rfl
  have c2 := fun w1 => divisor_any (x.natAbs : Nat) (y.natAbs : Nat) (by omega) (by omega) w1
  rw [hgc] at c2
  have hg : ((Int.gcd x y : Nat) : Int) ≤ 536870912000 := by
    by_cases hx : x = 0
    · subst hx
      rw [Int.gcd_zero_left]
      omega
    · have := Int.gcd_le_natAbs_left y hx
      omega
  have c3 := fun w1 => divisor_any (Int.gcd x y : Nat) d (by omega) (by omega) w1
  have hr : (((Int.gcd (Int.gcd x y : Nat) d : Nat) : Int) == 1) = (gcd3 x y d == 1) := by
    unfold gcd3
    apply Bool.eq_iff_iff.2
    simp
    omega
  have f0 : decide (x < l) = false := decide_eq_false g0
  have f1 : decide (u < x) = false := decide_eq_false g1
  have f2 : decide (y < l) = false := decide_eq_false g2
  have f3 : decide (u < y) = false := decide_eq_false g3
  clear h1 h2 hv hin hb hdd g0 g1 g2 g3 hg hgc ax ay
  generalize ((Int.gcd (Int.gcd x y : Nat) d : Nat) : Int) = r at *
  generalize ((Int.gcd x y : Nat) : Int) = s at *
  generalize ((x.natAbs : Nat) : Int) = u1 at *
  generalize ((y.natAbs : Nat) : Int) = u2 at *
  generalize (gcd3 x y d == 1) = z at *
  go_enter Try.func69, Try.ntmps69
  go_wp2_with fail
  refine wp_region_kept (by repeat (first | exact Kp.refl _ _ | refine Kp.drew ?_)) (by assumption) (by kernel_rfl) ?_
  repeat (with_reducible refine wpQuiet_step (fun K hK => ?_); go_simp; first | ((with_reducible refine hK _ ?_); clear hK K) | (with_reducible apply Exists.intro; (with_reducible refine ⟨fun _ => ?_, hK _ ?_⟩); ((first | (go_at_call 94; with_reducible exact Calls.kept_same (a1 _)) | (go_at_call 94; with_reducible exact Calls.kept_same (a2 _)) | (go_at_call 108; with_reducible exact Calls.kept_of (c2 _)) | (go_at_call 108; with_reducible exact Calls.kept_of (c3 _)) | fail)); clear hK K))
  with_reducible refine wpQuiet_nil ?_
  rintro _ ⟨p, rfl⟩
  go_wp2
  go_ret
  exact ⟨by simp, ((nw_alloc _ _)).tr p.since⟩

theorem near_eq (x y d : Int) : nearP x y d = (validP x y d && withinV x y (w64 (2000 * d))) := by
  unfold nearP inPt
  cases hv : validP x y d
  · simp
  · have h : inPt x y d 4000 = true := by unfold validP at hv; simp at hv; exact hv.1
    unfold inPt at h
    simp at h
    simp [h.1]
set_option maxHeartbeats 1600000 in
theorem near_any (x y d : Int) (w : World) : Calls Try.prog 111 #[pV x y d] w fun e w' => e = .returned (.bool (nearP x y d)) ∧ Nw w w' := by
  have c1 := fun w1 => rvalidPoint_any x y d w1
  have c2 := fun w1 => rwithin_any x y (w64 (2000 * d)) w1
  have hw := i64_w (2000 * d)
  rw [near_eq]
  generalize withinV x y (w64 (2000 * d)) = b at *
  generalize validP x y d = a at *
  generalize w64 (2000 * d) = z at *
  have hb0 := Blk.new_at w 50 #[.int .i64 x, .int .i64 y, .int .i64 d] (n := w.heap.size) (by simp)
  have hk0 : ∀ p : KeptW (w.alloc (.cells #[.int .i64 x, .int .i64 y, .int .i64 d] 50)), Blk p.wd (w.heap.size) 50 #[.int .i64 x, .int .i64 y, .int .i64 d] := fun p => hb0.kept p
  have q0 := fun p => (hk0 p).cell 0
  have q1 := fun p => (hk0 p).cell 1
  have q2 := fun p => (hk0 p).cell 2
  skip
  clear hb0 hk0
  cases a
  · go_enter Try.func111, Try.ntmps111
    go_wp2_with (first | (go_at_call 69; ((with_reducible refine (Calls.kept_first (c1 _)).mono ?_); rintro e _ ⟨rfl, p, rfl⟩)) | (go_at_call 43; ((with_reducible refine (Calls.kept_of (c2 _)).mono ?_); rintro e _ ⟨rfl, p, rfl⟩)) | fail)
    go_ret
    exact ⟨by simp, ((nw_alloc _ _)).tr p.since⟩
  · go_enter Try.func111, Try.ntmps111
    go_wp2_with (first | (go_at_call 69; ((with_reducible refine (Calls.kept_first (c1 _)).mono ?_); rintro e _ ⟨rfl, p, rfl⟩)) | (go_at_call 43; ((with_reducible refine (Calls.kept_of (c2 _)).mono ?_); rintro e _ ⟨rfl, p, rfl⟩)) | fail)
    go_ret
    exact ⟨by simp, ((nw_alloc _ _)).tr p.since⟩

end Go.Proofs.Ytahamffngmdjfaa.W
