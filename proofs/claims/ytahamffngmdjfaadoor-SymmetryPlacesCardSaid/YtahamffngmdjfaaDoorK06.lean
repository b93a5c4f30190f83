/-
  symmetry's reference: Vec: what it returns. Condition: coordinates that an int holds.
-/
import Derived.Test.YtahamffngmdjfaaDoorK04
import Derived.LoopN
namespace Go.Proofs.YtahamffngmdjfaaDoor.W
open Go.RowKit Go.Proofs.YtahamffngmdjfaaDoor.V Go.Proofs.YtahamffngmdjfaaDoor.G


set_option maxRecDepth 100000 in
set_option maxHeartbeats 3200000 in
theorem rtvec_any (t x y : Int) (w : World) (hx : I64 x) (hy : I64 y) : Calls Tryd.prog 13 #[.int .i64 t, vV x y] w fun e w' => e = .returned (vV (mapV t x y).1 (mapV t x y).2) ∧ Nw w w' := by
  have e1 : w64 (-x) = n64 x := rfl
  have e2 : w64 (-y) = n64 y := rfl
  have e3 : w64 (-n64 x) = x := n64_n64 hx
  have e4 : w64 (-n64 y) = y := n64_n64 hy
  by_cases hv : validT t = true
  · rcases validT_cases hv with rfl | rfl | rfl | rfl | rfl | rfl | rfl | rfl
    · have c1 : ∀ w1, Calls Tryd.prog 11 #[.int .i64 0] w1 fun e w' => e = .returned (.bool true) ∧ w1 = w' := fun w1 => rtvalid_any 0 w1
      rw [mapV0]
      go_enter Tryd.func13, Tryd.ntmps13
      go_wp2_with (first | (go_at_call 11; ((with_reducible refine (c1 _).mono ?_); rintro e _ ⟨rfl, rfl⟩)) | fail)
      refine wp_loop_rounds 1 ?_
      rw [rounds_succ]; go_wp2_with fail
      exact bodyPost_ret (v := vV (mapV 0 x y).1 (mapV 0 x y).2) (by simp [results, Tryd.results13, go_sem, ]; exact ⟨rfl, rfl⟩) rfl ⟨rfl, by repeat (first | exact Kp.refl _ _ | refine Kp.alloc ?_ _ | refine Kp.drew ?_ | refine Kp.drewN ?_ _ | refine Kp.new ?_ (by simp) _ _)⟩
    · have c1 : ∀ w1, Calls Tryd.prog 11 #[.int .i64 1] w1 fun e w' => e = .returned (.bool true) ∧ w1 = w' := fun w1 => rtvalid_any 1 w1
      rw [mapV1]
      go_enter Tryd.func13, Tryd.ntmps13
      go_wp2_with (first | (go_at_call 11; ((with_reducible refine (c1 _).mono ?_); rintro e _ ⟨rfl, rfl⟩)) | fail)
      refine wp_loop_rounds 2 ?_
      rw [rounds_succ]; go_wp2_with fail
      rw [rounds_succ]; go_wp2_with fail
      exact bodyPost_ret (v := vV (mapV 1 x y).1 (mapV 1 x y).2) (by simp [results, Tryd.results13, go_sem, w64_def]; exact ⟨rfl, rfl⟩) rfl ⟨rfl, by repeat (first | exact Kp.refl _ _ | refine Kp.alloc ?_ _ | refine Kp.drew ?_ | refine Kp.drewN ?_ _ | refine Kp.new ?_ (by simp) _ _)⟩
    · have c1 : ∀ w1, Calls Tryd.prog 11 #[.int .i64 2] w1 fun e w' => e = .returned (.bool true) ∧ w1 = w' := fun w1 => rtvalid_any 2 w1
      rw [mapV2]
      go_enter Tryd.func13, Tryd.ntmps13
      go_wp2_with (first | (go_at_call 11; ((with_reducible refine (c1 _).mono ?_); rintro e _ ⟨rfl, rfl⟩)) | fail)
      refine wp_loop_rounds 3 ?_
      rw [rounds_succ]; go_wp2_with fail
      rw [rounds_succ]; go_wp2_with fail
      rw [rounds_succ]; go_wp2_with fail
      exact bodyPost_ret (v := vV (mapV 2 x y).1 (mapV 2 x y).2) (by simp [results, Tryd.results13, go_sem, w64_def]; exact ⟨rfl, rfl⟩) rfl ⟨rfl, by repeat (first | exact Kp.refl _ _ | refine Kp.alloc ?_ _ | refine Kp.drew ?_ | refine Kp.drewN ?_ _ | refine Kp.new ?_ (by simp) _ _)⟩
    · have c1 : ∀ w1, Calls Tryd.prog 11 #[.int .i64 3] w1 fun e w' => e = .returned (.bool true) ∧ w1 = w' := fun w1 => rtvalid_any 3 w1
      rw [mapV3]
      go_enter Tryd.func13, Tryd.ntmps13
      go_wp2_with (first | (go_at_call 11; ((with_reducible refine (c1 _).mono ?_); rintro e _ ⟨rfl, rfl⟩)) | fail)
      refine wp_loop_rounds 4 ?_
      rw [rounds_succ]; go_wp2_with fail
      rw [rounds_succ]; go_wp2_with fail
      rw [rounds_succ]; go_wp2_with fail
      rw [rounds_succ]; go_wp2_with fail
      exact bodyPost_ret (v := vV (mapV 3 x y).1 (mapV 3 x y).2) (by simp [results, Tryd.results13, go_sem, w64_def]; exact ⟨e4, rfl⟩) rfl ⟨rfl, by repeat (first | exact Kp.refl _ _ | refine Kp.alloc ?_ _ | refine Kp.drew ?_ | refine Kp.drewN ?_ _ | refine Kp.new ?_ (by simp) _ _)⟩
    · have c1 : ∀ w1, Calls Tryd.prog 11 #[.int .i64 4] w1 fun e w' => e = .returned (.bool true) ∧ w1 = w' := fun w1 => rtvalid_any 4 w1
      rw [mapV4]
      go_enter Tryd.func13, Tryd.ntmps13
      go_wp2_with (first | (go_at_call 11; ((with_reducible refine (c1 _).mono ?_); rintro e _ ⟨rfl, rfl⟩)) | fail)
      refine wp_loop_rounds 1 ?_
      rw [rounds_succ]; go_wp2_with fail
      exact bodyPost_ret (v := vV (mapV 4 x y).1 (mapV 4 x y).2) (by simp [results, Tryd.results13, go_sem, w64_def]; exact ⟨rfl, rfl⟩) rfl ⟨rfl, by repeat (first | exact Kp.refl _ _ | refine Kp.alloc ?_ _ | refine Kp.drew ?_ | refine Kp.drewN ?_ _ | refine Kp.new ?_ (by simp) _ _)⟩
    · have c1 : ∀ w1, Calls Tryd.prog 11 #[.int .i64 5] w1 fun e w' => e = .returned (.bool true) ∧ w1 = w' := fun w1 => rtvalid_any 5 w1
      rw [mapV5]
      go_enter Tryd.func13, Tryd.ntmps13
      go_wp2_with (first | (go_at_call 11; ((with_reducible refine (c1 _).mono ?_); rintro e _ ⟨rfl, rfl⟩)) | fail)
      refine wp_loop_rounds 2 ?_
      rw [rounds_succ]; go_wp2_with fail
      rw [rounds_succ]; go_wp2_with fail
      exact bodyPost_ret (v := vV (mapV 5 x y).1 (mapV 5 x y).2) (by simp [results, Tryd.results13, go_sem, w64_def]; exact ⟨rfl, rfl⟩) rfl ⟨rfl, by repeat (first | exact Kp.refl _ _ | refine Kp.alloc ?_ _ | refine Kp.drew ?_ | refine Kp.drewN ?_ _ | refine Kp.new ?_ (by simp) _ _)⟩
    · have c1 : ∀ w1, Calls Tryd.prog 11 #[.int .i64 6] w1 fun e w' => e = .returned (.bool true) ∧ w1 = w' := fun w1 => rtvalid_any 6 w1
      rw [mapV6]
      go_enter Tryd.func13, Tryd.ntmps13
      go_wp2_with (first | (go_at_call 11; ((with_reducible refine (c1 _).mono ?_); rintro e _ ⟨rfl, rfl⟩)) | fail)
      refine wp_loop_rounds 3 ?_
      rw [rounds_succ]; go_wp2_with fail
      rw [rounds_succ]; go_wp2_with fail
      rw [rounds_succ]; go_wp2_with fail
      exact bodyPost_ret (v := vV (mapV 6 x y).1 (mapV 6 x y).2) (by simp [results, Tryd.results13, go_sem, w64_def]; exact ⟨e3, rfl⟩) rfl ⟨rfl, by repeat (first | exact Kp.refl _ _ | refine Kp.alloc ?_ _ | refine Kp.drew ?_ | refine Kp.drewN ?_ _ | refine Kp.new ?_ (by simp) _ _)⟩
    · have c1 : ∀ w1, Calls Tryd.prog 11 #[.int .i64 7] w1 fun e w' => e = .returned (.bool true) ∧ w1 = w' := fun w1 => rtvalid_any 7 w1
      rw [mapV7]
      go_enter Tryd.func13, Tryd.ntmps13
      go_wp2_with (first | (go_at_call 11; ((with_reducible refine (c1 _).mono ?_); rintro e _ ⟨rfl, rfl⟩)) | fail)
      refine wp_loop_rounds 4 ?_
      rw [rounds_succ]; go_wp2_with fail
      rw [rounds_succ]; go_wp2_with fail
      rw [rounds_succ]; go_wp2_with fail
      rw [rounds_succ]; go_wp2_with fail
      exact bodyPost_ret (v := vV (mapV 7 x y).1 (mapV 7 x y).2) (by simp [results, Tryd.results13, go_sem, w64_def]; exact ⟨e4, e3⟩) rfl ⟨rfl, by repeat (first | exact Kp.refl _ _ | refine Kp.alloc ?_ _ | refine Kp.drew ?_ | refine Kp.drewN ?_ _ | refine Kp.new ?_ (by simp) _ _)⟩
  · have hv' : validT t = false := by simpa using hv
    have c1 := fun w1 => rtvalid_any t w1
    rw [hv'] at c1
    rw [mapV_none hv']
    go_enter Tryd.func13, Tryd.ntmps13
    go_wp2_with (first | (go_at_call 11; ((with_reducible refine (c1 _).mono ?_); rintro e _ ⟨rfl, rfl⟩)) | fail)
    exact bodyPost_ret (v := vV x y) (by simp [results, Tryd.results13, go_sem]) rfl ⟨rfl, by repeat (first | exact Kp.refl _ _ | refine Kp.alloc ?_ _ | refine Kp.drew ?_ | refine Kp.drewN ?_ _ | refine Kp.new ?_ (by simp) _ _)⟩
end Go.Proofs.YtahamffngmdjfaaDoor.W
