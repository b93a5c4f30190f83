/-
  The reference's On: what it returns; what contains says of small points. No condition for the call.
-/
import Derived.Test.YtahamffngmdjfaaGSB
namespace Go.Proofs.Ytahamffngmdjfaa.W
open Go.RowKit Go.Proofs.Ytahamffngmdjfaa.V Go.Proofs.Ytahamffngmdjfaa.G

theorem con_lm {ax ay bx bz px py : Int} (ha : Lm ax ay) (hb : Lm bx bz) (hp : Lm px py) : conS ax ay bx bz px py = true ↔ On ax ay bx bz px py := by
  unfold conS On
  rw [turn_lm ha hb hp, Bool.and_eq_true, decide_eq_true_eq, beq_iff_eq, sgn_zero_iff]
  refine and_congr_right fun _ => ?_
  unfold dotV dotP
  unfold Lm at ha hb hp
  rw [w64_id (n := ax - px) ⟨by omega, by omega⟩, w64_id (n := ay - py) ⟨by omega, by omega⟩, w64_id (n := bx - px) ⟨by omega, by omega⟩, w64_id (n := bz - py) ⟨by omega, by omega⟩]
  have h1 := abs_le_mul (x := ax - px) (y := bx - px) (A := 8000) (B := 8000) (by omega) (by omega)
  have h2 := abs_le_mul (x := ay - py) (y := bz - py) (A := 8000) (B := 8000) (by omega) (by omega)
  rw [w64_id ⟨by omega, by omega⟩]
theorem within_lm {px py : Int} : withinV px py 4000 = true ↔ Lm px py := by
  unfold withinV
  rw [show w64 (-4000) = -4000 from w64_id ⟨by omega, by omega⟩]
  unfold Lm
  simp [and_assoc]
theorem on_valid {ax ay bx bz px py : Int} (h : validS ax ay bx bz = true) : onS ax ay bx bz px py = true ↔ Lm px py ∧ On ax ay bx bz px py := by
  obtain ⟨ha, hb⟩ := valid_lm h
  unfold onS
  rw [h, Bool.and_eq_true, Bool.true_and, within_lm]
  exact and_congr_right fun hp => con_lm ha hb hp
theorem on_boxS {ax ay bx bz px py : Int} (h : validS ax ay bx bz = true) : onS ax ay bx bz px py = (decide (min ax bx ≤ px) && decide (px ≤ max ax bx) && decide (min ay bz ≤ py) && decide (py ≤ max ay bz) && (turnV ax ay bx bz px py == 0)) := by
  obtain ⟨ha, hb⟩ := valid_lm h
  apply Bool.eq_iff_iff.2
  rw [on_valid h, on_box]
  simp only [Bool.and_eq_true, decide_eq_true_eq, beq_iff_eq]
  constructor
  · rintro ⟨hp, ⟨h1, h2, h3, h4⟩, h5⟩
    exact ⟨⟨⟨⟨h1, h2⟩, h3⟩, h4⟩, by rw [turn_lm ha hb hp, h5]; rfl⟩
  · rintro ⟨⟨⟨⟨h1, h2⟩, h3⟩, h4⟩, h5⟩
    have hp : Lm px py := by unfold Lm at *; omega
    rw [turn_lm ha hb hp, sgn_zero_iff] at h5
    exact ⟨hp, ⟨h1, h2, h3, h4⟩, h5⟩

set_option maxHeartbeats 3200000 in
theorem ron_any (ax ay bx bz px py : Int) (w : World) : Calls Try.prog 63 #[sV ax ay bx bz, vV px py] w fun e w' => e = .returned (.bool (onS ax ay bx bz px py)) ∧ Nw w w' := by
  have c1 := fun w1 => rvalid_any ax ay bx bz w1
  have c2 := fun w1 => rturn_any ax ay bx bz px py w1
  have hb0 := Blk.new_at w 48 #[.int .i64 ax, .int .i64 ay, .int .i64 bx, .int .i64 bz] (n := w.heap.size) (by simp)
  have hb1 := Blk.new_at (w.alloc (.cells #[.int .i64 ax, .int .i64 ay, .int .i64 bx, .int .i64 bz] 48)) 23 #[.int .i64 px, .int .i64 py] (n := w.heap.size + 1) (by simp)
  have hk0 : ∀ p : KeptW ((w.alloc (.cells #[.int .i64 ax, .int .i64 ay, .int .i64 bx, .int .i64 bz] 48)).alloc (.cells #[.int .i64 px, .int .i64 py] 23)), Blk p.wd (w.heap.size) 48 #[.int .i64 ax, .int .i64 ay, .int .i64 bx, .int .i64 bz] := fun p => (hb0.alloc _).kept p
  have q0 := fun p => (hk0 p).cell 0
  have q1 := fun p => (hk0 p).cell 1
  have q2 := fun p => (hk0 p).cell 2
  have q3 := fun p => (hk0 p).cell 3
  have hk1 : ∀ p : KeptW ((w.alloc (.cells #[.int .i64 ax, .int .i64 ay, .int .i64 bx, .int .i64 bz] 48)).alloc (.cells #[.int .i64 px, .int .i64 py] 23)), Blk p.wd (w.heap.size + 1) 23 #[.int .i64 px, .int .i64 py] := fun p => hb1.kept p
  have q4 := fun p => (hk1 p).cell 0
  have q5 := fun p => (hk1 p).cell 1
  skip
  clear hb0 hk0 hb1 hk1
  by_cases hv : validS ax ay bx bz = true
  · rw [on_boxS hv]
    rw [hv] at c1
    clear hv
    generalize turnV ax ay bx bz px py = t at *
    obtain ⟨m1, h1⟩ : ∃ m, min ax bx = m := ⟨_, rfl⟩
    obtain ⟨M1, h2⟩ : ∃ m, max ax bx = m := ⟨_, rfl⟩
    obtain ⟨m2, h3⟩ : ∃ m, min ay bz = m := ⟨_, rfl⟩
    obtain ⟨M2, h4⟩ : ∃ m, max ay bz = m := ⟨_, rfl⟩
    rw [h1, h2, h3, h4]
    by_cases g0 : m1 ≤ px
    case neg =>
      have f0 : decide (m1 ≤ px) = false := decide_eq_false g0
      clear g0
      go_enter Try.func63, Try.ntmps63
      go_wp2_with (first | (go_at_call 57; ((with_reducible refine (Calls.kept_first (c1 _)).mono ?_); rintro e _ ⟨rfl, p, rfl⟩)) | fail)
      go_ret
      exact ⟨by simp [f0], ((nw_alloc _ _).alloc _).tr p.since⟩
    by_cases g1 : px ≤ M1
    case neg =>
      have f0 : decide (m1 ≤ px) = true := decide_eq_true g0
      have f1 : decide (px ≤ M1) = false := decide_eq_false g1
      clear g0 g1
      go_enter Try.func63, Try.ntmps63
      go_wp2_with (first | (go_at_call 57; ((with_reducible refine (Calls.kept_first (c1 _)).mono ?_); rintro e _ ⟨rfl, p, rfl⟩)) | fail)
      go_ret
      exact ⟨by simp [f0, f1], ((nw_alloc _ _).alloc _).tr p.since⟩
    by_cases g2 : m2 ≤ py
    case neg =>
      have f0 : decide (m1 ≤ px) = true := decide_eq_true g0
      have f1 : decide (px ≤ M1) = true := decide_eq_true g1
      have f2 : decide (m2 ≤ py) = false := decide_eq_false g2
      clear g0 g1 g2
      go_enter Try.func63, Try.ntmps63
      go_wp2_with (first | (go_at_call 57; ((with_reducible refine (Calls.kept_first (c1 _)).mono ?_); rintro e _ ⟨rfl, p, rfl⟩)) | fail)
      go_ret
      exact ⟨by simp [f0, f1, f2], ((nw_alloc _ _).alloc _).tr p.since⟩
    by_cases g3 : py ≤ M2
    case neg =>
      have f0 : decide (m1 ≤ px) = true := decide_eq_true g0
      have f1 : decide (px ≤ M1) = true := decide_eq_true g1
      have f2 : decide (m2 ≤ py) = true := decide_eq_true g2
      have f3 : decide (py ≤ M2) = false := decide_eq_false g3
      clear g0 g1 g2 g3
      go_enter Try.func63, Try.ntmps63
      go_wp2_with (first | (go_at_call 57; ((with_reducible refine (Calls.kept_first (c1 _)).mono ?_); rintro e _ ⟨rfl, p, rfl⟩)) | fail)
      go_ret
      exact ⟨by simp [f0, f1, f2, f3], ((nw_alloc _ _).alloc _).tr p.since⟩
    have f0 : decide (m1 ≤ px) = true := decide_eq_true g0
    have f1 : decide (px ≤ M1) = true := decide_eq_true g1
    have f2 : decide (m2 ≤ py) = true := decide_eq_true g2
    have f3 : decide (py ≤ M2) = true := decide_eq_true g3
    clear g0 g1 g2 g3
    go_enter Try.func63, Try.ntmps63
    go_wp2_with (first | (go_at_call 57; ((with_reducible refine (Calls.kept_first (c1 _)).mono ?_); rintro e _ ⟨rfl, p, rfl⟩)) | (go_at_call 37; ((with_reducible refine (Calls.kept_of (c2 _)).mono ?_); rintro e _ ⟨rfl, p, rfl⟩)) | fail)
    go_ret
    exact ⟨by simp [f0, f1, f2, f3], ((nw_alloc _ _).alloc _).tr p.since⟩
  · rw [Bool.not_eq_true] at hv
    have ho : onS ax ay bx bz px py = false := by unfold onS; rw [hv]; rfl
    rw [ho]
    rw [hv] at c1
    clear hv ho
    go_enter Try.func63, Try.ntmps63
    go_wp2_with (first | (go_at_call 57; ((with_reducible refine (Calls.kept_first (c1 _)).mono ?_); rintro e _ ⟨rfl, p, rfl⟩)) | fail)
    go_ret
    exact ⟨rfl, ((nw_alloc _ _).alloc _).tr p.since⟩

end Go.Proofs.Ytahamffngmdjfaa.W
