/-
  symmetry and its reference: Vec: what it returns. Conditions: the table of the quarter turns, and coordinates that an int holds.
-/
import Derived.Test.YtahamffngmdjfaaDoorK02
import Derived.Test.YtahamffngmdjfaaDoorK04
namespace Go.Proofs.YtahamffngmdjfaaDoor.W
open Go.RowKit Go.Proofs.YtahamffngmdjfaaDoor.V Go.Proofs.YtahamffngmdjfaaDoor.G


set_option maxRecDepth 100000 in
set_option maxHeartbeats 3200000 in
theorem tvec_any (t x y : Int) (w : World) (hT : TabQ w) (hx : I64 x) (hy : I64 y) : Calls Tryd.prog 12 #[.int .i64 t, vV x y] w fun e w' => e = .returned (vV (mapV t x y).1 (mapV t x y).2) ∧ Nw w w' := by
  have a1 : w64 (w64 x) = x := by rw [w64_w, w64_id hx]
  have a2 : w64 (w64 y) = y := by rw [w64_w, w64_id hy]
  have a3 : w64 (w64 (-x)) = n64 x := w64_w _
  have a4 : w64 (w64 (-y)) = n64 y := w64_w _
  have a5 : w64 (w64 (w64 (-x))) = n64 x := by rw [w64_w, w64_w]; rfl
  have a6 : w64 (w64 (-(w64 (-x)))) = x := by rw [w64_w]; exact n64_n64 hx
  have hg := hT.lt

  by_cases hv : validT t = true
  · rcases validT_cases hv with rfl | rfl | rfl | rfl | rfl | rfl | rfl | rfl
    · have c1 : ∀ w1, Calls Tryd.prog 10 #[.int .i64 0] w1 fun e w' => e = .returned (.bool true) ∧ w1 = w' := fun w1 => tvalid_any 0 w1
      have c2 : ∀ w1, Calls Tryd.prog 18 #[.int .i64 0] w1 fun e w' => e = .returned (.bool false) ∧ w1 = w' := fun w1 => mirrors_any 0 w1
      have z0 : w.cell? ⟨0, 0, none⟩ = some (.int .i64 (1)) := hT.cell _
      have z1 : w.cell? ⟨0, 1, none⟩ = some (.int .i64 (0)) := hT.cell _
      have z2 : w.cell? ⟨0, 2, none⟩ = some (.int .i64 (0)) := hT.cell _
      have z3 : w.cell? ⟨0, 3, none⟩ = some (.int .i64 (1)) := hT.cell _
      rw [mapV0]
      go_enter Tryd.func12, Tryd.ntmps12
      go_wp2_with (first | (go_at_call 10; ((with_reducible refine (c1 _).mono ?_); rintro e _ ⟨rfl, rfl⟩)) | (go_at_call 18; ((with_reducible refine (c2 _).mono ?_); rintro e _ ⟨rfl, rfl⟩)) | fail)
      exact bodyPost_ret (v := vV (mapV 0 x y).1 (mapV 0 x y).2) (by simp [results, Tryd.results12, go_sem, w64_def]; exact ⟨a1, a2⟩) rfl ⟨rfl, by repeat (first | exact Kp.refl _ _ | refine Kp.alloc ?_ _ | refine Kp.drew ?_ | refine Kp.drewN ?_ _ | refine Kp.new ?_ (by simp) _ _)⟩
    · have c1 : ∀ w1, Calls Tryd.prog 10 #[.int .i64 1] w1 fun e w' => e = .returned (.bool true) ∧ w1 = w' := fun w1 => tvalid_any 1 w1
      have c2 : ∀ w1, Calls Tryd.prog 18 #[.int .i64 1] w1 fun e w' => e = .returned (.bool false) ∧ w1 = w' := fun w1 => mirrors_any 1 w1
      have z0 : w.cell? ⟨0, 4, none⟩ = some (.int .i64 (0)) := hT.cell _
      have z1 : w.cell? ⟨0, 5, none⟩ = some (.int .i64 (-1)) := hT.cell _
      have z2 : w.cell? ⟨0, 6, none⟩ = some (.int .i64 (1)) := hT.cell _
      have z3 : w.cell? ⟨0, 7, none⟩ = some (.int .i64 (0)) := hT.cell _
      rw [mapV1]
      go_enter Tryd.func12, Tryd.ntmps12
      go_wp2_with (first | (go_at_call 10; ((with_reducible refine (c1 _).mono ?_); rintro e _ ⟨rfl, rfl⟩)) | (go_at_call 18; ((with_reducible refine (c2 _).mono ?_); rintro e _ ⟨rfl, rfl⟩)) | fail)
      exact bodyPost_ret (v := vV (mapV 1 x y).1 (mapV 1 x y).2) (by simp [results, Tryd.results12, go_sem, w64_def]; exact ⟨a4, a1⟩) rfl ⟨rfl, by repeat (first | exact Kp.refl _ _ | refine Kp.alloc ?_ _ | refine Kp.drew ?_ | refine Kp.drewN ?_ _ | refine Kp.new ?_ (by simp) _ _)⟩
    · have c1 : ∀ w1, Calls Tryd.prog 10 #[.int .i64 2] w1 fun e w' => e = .returned (.bool true) ∧ w1 = w' := fun w1 => tvalid_any 2 w1
      have c2 : ∀ w1, Calls Tryd.prog 18 #[.int .i64 2] w1 fun e w' => e = .returned (.bool false) ∧ w1 = w' := fun w1 => mirrors_any 2 w1
      have z0 : w.cell? ⟨0, 8, none⟩ = some (.int .i64 (-1)) := hT.cell _
      have z1 : w.cell? ⟨0, 9, none⟩ = some (.int .i64 (0)) := hT.cell _
      have z2 : w.cell? ⟨0, 10, none⟩ = some (.int .i64 (0)) := hT.cell _
      have z3 : w.cell? ⟨0, 11, none⟩ = some (.int .i64 (-1)) := hT.cell _
      rw [mapV2]
      go_enter Tryd.func12, Tryd.ntmps12
      go_wp2_with (first | (go_at_call 10; ((with_reducible refine (c1 _).mono ?_); rintro e _ ⟨rfl, rfl⟩)) | (go_at_call 18; ((with_reducible refine (c2 _).mono ?_); rintro e _ ⟨rfl, rfl⟩)) | fail)
      exact bodyPost_ret (v := vV (mapV 2 x y).1 (mapV 2 x y).2) (by simp [results, Tryd.results12, go_sem, w64_def]; exact ⟨a3, a4⟩) rfl ⟨rfl, by repeat (first | exact Kp.refl _ _ | refine Kp.alloc ?_ _ | refine Kp.drew ?_ | refine Kp.drewN ?_ _ | refine Kp.new ?_ (by simp) _ _)⟩
    · have c1 : ∀ w1, Calls Tryd.prog 10 #[.int .i64 3] w1 fun e w' => e = .returned (.bool true) ∧ w1 = w' := fun w1 => tvalid_any 3 w1
      have c2 : ∀ w1, Calls Tryd.prog 18 #[.int .i64 3] w1 fun e w' => e = .returned (.bool false) ∧ w1 = w' := fun w1 => mirrors_any 3 w1
      have z0 : w.cell? ⟨0, 12, none⟩ = some (.int .i64 (0)) := hT.cell _
      have z1 : w.cell? ⟨0, 13, none⟩ = some (.int .i64 (1)) := hT.cell _
      have z2 : w.cell? ⟨0, 14, none⟩ = some (.int .i64 (-1)) := hT.cell _
      have z3 : w.cell? ⟨0, 15, none⟩ = some (.int .i64 (0)) := hT.cell _
      rw [mapV3]
      go_enter Tryd.func12, Tryd.ntmps12
      go_wp2_with (first | (go_at_call 10; ((with_reducible refine (c1 _).mono ?_); rintro e _ ⟨rfl, rfl⟩)) | (go_at_call 18; ((with_reducible refine (c2 _).mono ?_); rintro e _ ⟨rfl, rfl⟩)) | fail)
      exact bodyPost_ret (v := vV (mapV 3 x y).1 (mapV 3 x y).2) (by simp [results, Tryd.results12, go_sem, w64_def]; exact ⟨a2, a3⟩) rfl ⟨rfl, by repeat (first | exact Kp.refl _ _ | refine Kp.alloc ?_ _ | refine Kp.drew ?_ | refine Kp.drewN ?_ _ | refine Kp.new ?_ (by simp) _ _)⟩
    · have c1 : ∀ w1, Calls Tryd.prog 10 #[.int .i64 4] w1 fun e w' => e = .returned (.bool true) ∧ w1 = w' := fun w1 => tvalid_any 4 w1
      have c2 : ∀ w1, Calls Tryd.prog 18 #[.int .i64 4] w1 fun e w' => e = .returned (.bool true) ∧ w1 = w' := fun w1 => mirrors_any 4 w1
      have z0 : w.cell? ⟨0, 0, none⟩ = some (.int .i64 (1)) := hT.cell _
      have z1 : w.cell? ⟨0, 1, none⟩ = some (.int .i64 (0)) := hT.cell _
      have z2 : w.cell? ⟨0, 2, none⟩ = some (.int .i64 (0)) := hT.cell _
      have z3 : w.cell? ⟨0, 3, none⟩ = some (.int .i64 (1)) := hT.cell _
      rw [mapV4]
      go_enter Tryd.func12, Tryd.ntmps12
      go_wp2_with (first | (go_at_call 10; ((with_reducible refine (c1 _).mono ?_); rintro e _ ⟨rfl, rfl⟩)) | (go_at_call 18; ((with_reducible refine (c2 _).mono ?_); rintro e _ ⟨rfl, rfl⟩)) | fail)
      exact bodyPost_ret (v := vV (mapV 4 x y).1 (mapV 4 x y).2) (by simp [results, Tryd.results12, go_sem, w64_def]; exact ⟨a5, a2⟩) rfl ⟨rfl, by repeat (first | exact Kp.refl _ _ | refine Kp.alloc ?_ _ | refine Kp.drew ?_ | refine Kp.drewN ?_ _ | refine Kp.new ?_ (by simp) _ _)⟩
    · have c1 : ∀ w1, Calls Tryd.prog 10 #[.int .i64 5] w1 fun e w' => e = .returned (.bool true) ∧ w1 = w' := fun w1 => tvalid_any 5 w1
      have c2 : ∀ w1, Calls Tryd.prog 18 #[.int .i64 5] w1 fun e w' => e = .returned (.bool true) ∧ w1 = w' := fun w1 => mirrors_any 5 w1
      have z0 : w.cell? ⟨0, 4, none⟩ = some (.int .i64 (0)) := hT.cell _
      have z1 : w.cell? ⟨0, 5, none⟩ = some (.int .i64 (-1)) := hT.cell _
      have z2 : w.cell? ⟨0, 6, none⟩ = some (.int .i64 (1)) := hT.cell _
      have z3 : w.cell? ⟨0, 7, none⟩ = some (.int .i64 (0)) := hT.cell _
      rw [mapV5]
      go_enter Tryd.func12, Tryd.ntmps12
      go_wp2_with (first | (go_at_call 10; ((with_reducible refine (c1 _).mono ?_); rintro e _ ⟨rfl, rfl⟩)) | (go_at_call 18; ((with_reducible refine (c2 _).mono ?_); rintro e _ ⟨rfl, rfl⟩)) | fail)
      exact bodyPost_ret (v := vV (mapV 5 x y).1 (mapV 5 x y).2) (by simp [results, Tryd.results12, go_sem, w64_def]; exact ⟨a4, a5⟩) rfl ⟨rfl, by repeat (first | exact Kp.refl _ _ | refine Kp.alloc ?_ _ | refine Kp.drew ?_ | refine Kp.drewN ?_ _ | refine Kp.new ?_ (by simp) _ _)⟩
    · have c1 : ∀ w1, Calls Tryd.prog 10 #[.int .i64 6] w1 fun e w' => e = .returned (.bool true) ∧ w1 = w' := fun w1 => tvalid_any 6 w1
      have c2 : ∀ w1, Calls Tryd.prog 18 #[.int .i64 6] w1 fun e w' => e = .returned (.bool true) ∧ w1 = w' := fun w1 => mirrors_any 6 w1
      have z0 : w.cell? ⟨0, 8, none⟩ = some (.int .i64 (-1)) := hT.cell _
      have z1 : w.cell? ⟨0, 9, none⟩ = some (.int .i64 (0)) := hT.cell _
      have z2 : w.cell? ⟨0, 10, none⟩ = some (.int .i64 (0)) := hT.cell _
      have z3 : w.cell? ⟨0, 11, none⟩ = some (.int .i64 (-1)) := hT.cell _
      rw [mapV6]
      go_enter Tryd.func12, Tryd.ntmps12
      go_wp2_with (first | (go_at_call 10; ((with_reducible refine (c1 _).mono ?_); rintro e _ ⟨rfl, rfl⟩)) | (go_at_call 18; ((with_reducible refine (c2 _).mono ?_); rintro e _ ⟨rfl, rfl⟩)) | fail)
      exact bodyPost_ret (v := vV (mapV 6 x y).1 (mapV 6 x y).2) (by simp [results, Tryd.results12, go_sem, w64_def]; exact ⟨a6, a4⟩) rfl ⟨rfl, by repeat (first | exact Kp.refl _ _ | refine Kp.alloc ?_ _ | refine Kp.drew ?_ | refine Kp.drewN ?_ _ | refine Kp.new ?_ (by simp) _ _)⟩
    · have c1 : ∀ w1, Calls Tryd.prog 10 #[.int .i64 7] w1 fun e w' => e = .returned (.bool true) ∧ w1 = w' := fun w1 => tvalid_any 7 w1
      have c2 : ∀ w1, Calls Tryd.prog 18 #[.int .i64 7] w1 fun e w' => e = .returned (.bool true) ∧ w1 = w' := fun w1 => mirrors_any 7 w1
      have z0 : w.cell? ⟨0, 12, none⟩ = some (.int .i64 (0)) := hT.cell _
      have z1 : w.cell? ⟨0, 13, none⟩ = some (.int .i64 (1)) := hT.cell _
      have z2 : w.cell? ⟨0, 14, none⟩ = some (.int .i64 (-1)) := hT.cell _
      have z3 : w.cell? ⟨0, 15, none⟩ = some (.int .i64 (0)) := hT.cell _
      rw [mapV7]
      go_enter Tryd.func12, Tryd.ntmps12
      go_wp2_with (first | (go_at_call 10; ((with_reducible refine (c1 _).mono ?_); rintro e _ ⟨rfl, rfl⟩)) | (go_at_call 18; ((with_reducible refine (c2 _).mono ?_); rintro e _ ⟨rfl, rfl⟩)) | fail)
      exact bodyPost_ret (v := vV (mapV 7 x y).1 (mapV 7 x y).2) (by simp [results, Tryd.results12, go_sem, w64_def]; exact ⟨a2, a6⟩) rfl ⟨rfl, by repeat (first | exact Kp.refl _ _ | refine Kp.alloc ?_ _ | refine Kp.drew ?_ | refine Kp.drewN ?_ _ | refine Kp.new ?_ (by simp) _ _)⟩
  · have hv' : validT t = false := by simpa using hv
    have c1 := fun w1 => tvalid_any t w1
    rw [hv'] at c1
    rw [mapV_none hv']
    go_enter Tryd.func12, Tryd.ntmps12
    go_wp2_with (first | (go_at_call 10; ((with_reducible refine (c1 _).mono ?_); rintro e _ ⟨rfl, rfl⟩)) | fail)
    exact bodyPost_ret (v := vV x y) (by simp [results, Tryd.results12, go_sem]) rfl ⟨rfl, by repeat (first | exact Kp.refl _ _ | refine Kp.alloc ?_ _ | refine Kp.drew ?_ | refine Kp.drewN ?_ _ | refine Kp.new ?_ (by simp) _ _)⟩
end Go.Proofs.YtahamffngmdjfaaDoor.W
