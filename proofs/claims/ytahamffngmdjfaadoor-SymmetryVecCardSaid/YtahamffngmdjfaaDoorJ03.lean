/-
  symmetry and its reference: Valid, Mirrors, Odd, Grain: what each returns; none touches memory. No condition.
-/
import Derived.Test.YtahamffngmdjfaaDoorJ01
import Derived.Test.YtahamffngmdjfaaDoorJ02
namespace Go.Proofs.YtahamffngmdjfaaDoor.W
open Go.RowKit Go.Proofs.YtahamffngmdjfaaDoor.V Go.Proofs.YtahamffngmdjfaaDoor.G


theorem tvalid_any (t : Int) (w : World) : Calls Tryd.prog 10 #[.int .i64 t] w fun e w' => e = .returned (.bool (validT t)) ∧ w = w' := by
  by_cases h0 : 0 ≤ t
  · have e0 : decide (0 ≤ t) = true := by simp [h0]
    go_enter Tryd.func10, Tryd.ntmps10
    go_wp2
    go_ret
    exact ⟨by simp [validT, e0], rfl⟩
  · have e0 : decide (0 ≤ t) = false := by simp [h0]
    go_enter Tryd.func10, Tryd.ntmps10
    go_wp2
    go_ret
    exact ⟨by simp [validT, e0], rfl⟩

theorem mirrors_any (t : Int) (w : World) : Calls Tryd.prog 18 #[.int .i64 t] w fun e w' => e = .returned (.bool (mirT t)) ∧ w = w' := by
  have c1 := fun w1 => tvalid_any t w1
  unfold mirT
  generalize validT t = a at *
  cases a
  · go_enter Tryd.func18, Tryd.ntmps18
    go_wp2_with (first | (go_at_call 10; ((with_reducible refine (c1 _).mono ?_); rintro e _ ⟨rfl, rfl⟩)) | fail)
    go_ret
    exact ⟨by simp, rfl⟩
  · go_enter Tryd.func18, Tryd.ntmps18
    go_wp2_with (first | (go_at_call 10; ((with_reducible refine (c1 _).mono ?_); rintro e _ ⟨rfl, rfl⟩)) | fail)
    go_ret
    exact ⟨by simp, rfl⟩

theorem odd_any (t : Int) (w : World) : Calls Tryd.prog 16 #[.int .i64 t] w fun e w' => e = .returned (.bool (oddT t)) ∧ w = w' := by
  have c1 := fun w1 => tvalid_any t w1
  unfold oddT
  generalize validT t = a at *
  cases a
  · go_enter Tryd.func16, Tryd.ntmps16
    go_wp2_with (first | (go_at_call 10; ((with_reducible refine (c1 _).mono ?_); rintro e _ ⟨rfl, rfl⟩)) | fail)
    go_ret
    exact ⟨by simp, rfl⟩
  · go_enter Tryd.func16, Tryd.ntmps16
    go_wp2_with (first | (go_at_call 10; ((with_reducible refine (c1 _).mono ?_); rintro e _ ⟨rfl, rfl⟩)) | fail)
    go_ret
    exact ⟨by simp, rfl⟩

theorem grain_any (t g : Int) (w : World) : Calls Tryd.prog 20 #[.int .i64 t, .int .i64 g] w fun e w' => e = .returned (.int .i64 (grainT t g)) ∧ w = w' := by
  have c1 := fun w1 => tvalid_any t w1
  have c2 := fun w1 => odd_any t w1
  obtain ⟨r, hr⟩ : ∃ r, grainT t g = r := ⟨_, rfl⟩
  rw [hr]
  obtain ⟨a, ha⟩ : ∃ a, validT t = a := ⟨_, rfl⟩
  obtain ⟨b, hb⟩ : ∃ b, oddT t = b := ⟨_, rfl⟩
  rw [ha] at c1
  rw [hb] at c2
  by_cases h1 : g = 1
  · subst h1
    cases a <;> cases b
    all_goals
      go_enter Tryd.func20, Tryd.ntmps20
      go_wp2_with (first | (go_at_call 10; ((with_reducible refine (c1 _).mono ?_); rintro e _ ⟨rfl, rfl⟩)) | (go_at_call 16; ((with_reducible refine (c2 _).mono ?_); rintro e _ ⟨rfl, rfl⟩)) | fail)
      go_ret
      exact ⟨by rw [← hr]; simp [grainT, ha, hb], rfl⟩
  · by_cases h2 : g = 2
    · subst h2
      cases a <;> cases b
      all_goals
        go_enter Tryd.func20, Tryd.ntmps20
        go_wp2_with (first | (go_at_call 10; ((with_reducible refine (c1 _).mono ?_); rintro e _ ⟨rfl, rfl⟩)) | (go_at_call 16; ((with_reducible refine (c2 _).mono ?_); rintro e _ ⟨rfl, rfl⟩)) | fail)
        go_ret
        exact ⟨by rw [← hr]; simp [grainT, ha, hb], rfl⟩
    · have e1 : (g == 1) = false := by simp [h1]
      have e2 : (g == 2) = false := by simp [h2]
      have e3 : (g != 1) = true := by simp [h1]
      have e4 : (g != 2) = true := by simp [h2]
      cases a <;> cases b
      all_goals
        go_enter Tryd.func20, Tryd.ntmps20
        go_wp2_with (first | (go_at_call 10; ((with_reducible refine (c1 _).mono ?_); rintro e _ ⟨rfl, rfl⟩)) | (go_at_call 16; ((with_reducible refine (c2 _).mono ?_); rintro e _ ⟨rfl, rfl⟩)) | fail)
        go_ret
        exact ⟨by rw [← hr]; simp [grainT, ha, h1, h2], rfl⟩

theorem rtvalid_any (t : Int) (w : World) : Calls Tryd.prog 11 #[.int .i64 t] w fun e w' => e = .returned (.bool (validT t)) ∧ w = w' := by
  by_cases h0 : 0 ≤ t
  · have e0 : decide (0 ≤ t) = true := by simp [h0]
    go_enter Tryd.func11, Tryd.ntmps11
    go_wp2
    go_ret
    exact ⟨by simp [validT, e0], rfl⟩
  · have e0 : decide (0 ≤ t) = false := by simp [h0]
    go_enter Tryd.func11, Tryd.ntmps11
    go_wp2
    go_ret
    exact ⟨by simp [validT, e0], rfl⟩

theorem rmirrors_any (t : Int) (w : World) : Calls Tryd.prog 19 #[.int .i64 t] w fun e w' => e = .returned (.bool (mirT t)) ∧ w = w' := by
  have c1 := fun w1 => rtvalid_any t w1
  unfold mirT
  generalize validT t = a at *
  cases a
  · go_enter Tryd.func19, Tryd.ntmps19
    go_wp2_with (first | (go_at_call 11; ((with_reducible refine (c1 _).mono ?_); rintro e _ ⟨rfl, rfl⟩)) | fail)
    go_ret
    exact ⟨by simp, rfl⟩
  · go_enter Tryd.func19, Tryd.ntmps19
    go_wp2_with (first | (go_at_call 11; ((with_reducible refine (c1 _).mono ?_); rintro e _ ⟨rfl, rfl⟩)) | fail)
    go_ret
    exact ⟨by simp, rfl⟩

theorem rodd_any (t : Int) (w : World) : Calls Tryd.prog 17 #[.int .i64 t] w fun e w' => e = .returned (.bool (oddT t)) ∧ w = w' := by
  have c1 := fun w1 => rtvalid_any t w1
  unfold oddT
  generalize validT t = a at *
  cases a
  · go_enter Tryd.func17, Tryd.ntmps17
    go_wp2_with (first | (go_at_call 11; ((with_reducible refine (c1 _).mono ?_); rintro e _ ⟨rfl, rfl⟩)) | fail)
    go_ret
    exact ⟨by simp, rfl⟩
  · go_enter Tryd.func17, Tryd.ntmps17
    go_wp2_with (first | (go_at_call 11; ((with_reducible refine (c1 _).mono ?_); rintro e _ ⟨rfl, rfl⟩)) | fail)
    go_ret
    exact ⟨by simp, rfl⟩

theorem rgrain_any (t g : Int) (w : World) : Calls Tryd.prog 21 #[.int .i64 t, .int .i64 g] w fun e w' => e = .returned (.int .i64 (grainT t g)) ∧ w = w' := by
  have c1 := fun w1 => rtvalid_any t w1
  have c2 := fun w1 => rodd_any t w1
  obtain ⟨r, hr⟩ : ∃ r, grainT t g = r := ⟨_, rfl⟩
  rw [hr]
  obtain ⟨a, ha⟩ : ∃ a, validT t = a := ⟨_, rfl⟩
  obtain ⟨b, hb⟩ : ∃ b, oddT t = b := ⟨_, rfl⟩
  rw [ha] at c1
  rw [hb] at c2
  by_cases h1 : g = 1
  · subst h1
    cases a <;> cases b
    all_goals
      go_enter Tryd.func21, Tryd.ntmps21
      go_wp2_with (first | (go_at_call 11; ((with_reducible refine (c1 _).mono ?_); rintro e _ ⟨rfl, rfl⟩)) | (go_at_call 17; ((with_reducible refine (c2 _).mono ?_); rintro e _ ⟨rfl, rfl⟩)) | fail)
      go_ret
      exact ⟨by rw [← hr]; simp [grainT, ha, hb], rfl⟩
  · by_cases h2 : g = 2
    · subst h2
      cases a <;> cases b
      all_goals
        go_enter Tryd.func21, Tryd.ntmps21
        go_wp2_with (first | (go_at_call 11; ((with_reducible refine (c1 _).mono ?_); rintro e _ ⟨rfl, rfl⟩)) | (go_at_call 17; ((with_reducible refine (c2 _).mono ?_); rintro e _ ⟨rfl, rfl⟩)) | fail)
        go_ret
        exact ⟨by rw [← hr]; simp [grainT, ha, hb], rfl⟩
    · have e1 : (g == 1) = false := by simp [h1]
      have e2 : (g == 2) = false := by simp [h2]
      have e3 : (g != 1) = true := by simp [h1]
      have e4 : (g != 2) = true := by simp [h2]
      cases a <;> cases b
      all_goals
        go_enter Tryd.func21, Tryd.ntmps21
        go_wp2_with (first | (go_at_call 11; ((with_reducible refine (c1 _).mono ?_); rintro e _ ⟨rfl, rfl⟩)) | (go_at_call 17; ((with_reducible refine (c2 _).mono ?_); rintro e _ ⟨rfl, rfl⟩)) | fail)
        go_ret
        exact ⟨by rw [← hr]; simp [grainT, ha, h1, h2], rfl⟩

end Go.Proofs.YtahamffngmdjfaaDoor.W
