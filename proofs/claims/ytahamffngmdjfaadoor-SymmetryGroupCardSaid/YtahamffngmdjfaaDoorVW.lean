/-
  vec and its reference: what each function of numbers and vectors returns. No condition but that of Within's least number, where it says so.
-/
import Derived.Test.YtahamffngmdjfaaDoorVPl
namespace Go.Proofs.YtahamffngmdjfaaDoor.W
open Go.RowKit Go.Proofs.YtahamffngmdjfaaDoor.V

abbrev vV (x y : Int) : Value := .agg #[.int .i64 x, .int .i64 y]
theorem nw_drewN (w : World) (n : Nat) : Nw w (w.drewN n) := (Kp.refl _ w).drewN n
theorem nw_alloc (w : World) (o : Obj) : Nw w (w.alloc o) := (Kp.refl _ w).alloc o

set_option maxHeartbeats 800000 in
theorem sub_any (ax ay bx bz : Int) (w : World) : Calls Tryd.prog 90 #[vV ax ay, vV bx bz] w fun e w' => e = .returned (vV (w64 (ax - bx)) (w64 (ay - bz))) ∧ Nw w w' := by
  go_enter Tryd.func90, Tryd.ntmps90
  go_wp2
  exact bodyPost_ret (v := vV (w64 (ax - bx)) (w64 (ay - bz))) (by simp [results, Tryd.results90, go_sem]; exact ⟨rfl, rfl⟩) rfl ⟨rfl, by repeat (first | exact Kp.refl _ _ | refine Kp.alloc ?_ _ | refine Kp.drew ?_ | refine Kp.drewN ?_ _)⟩

set_option maxHeartbeats 800000 in
theorem dot_any (ax ay bx bz : Int) (w : World) : Calls Tryd.prog 96 #[vV ax ay, vV bx bz] w fun e w' => e = .returned (.int .i64 (dotV ax ay bx bz)) ∧ Nw w w' := by
  rw [← dot_way]
  go_enter Tryd.func96, Tryd.ntmps96
  go_wp2
  go_ret
  exact ⟨rfl, by repeat (first | exact Kp.refl _ _ | refine Kp.alloc ?_ _ | refine Kp.drew ?_ | refine Kp.drewN ?_ _)⟩

set_option maxHeartbeats 800000 in
theorem cross_any (ax ay bx bz : Int) (w : World) : Calls Tryd.prog 77 #[vV ax ay, vV bx bz] w fun e w' => e = .returned (.int .i64 (crossV ax ay bx bz)) ∧ Nw w w' := by
  rw [← cross_way]
  go_enter Tryd.func77, Tryd.ntmps77
  go_wp2
  go_ret
  exact ⟨rfl, by repeat (first | exact Kp.refl _ _ | refine Kp.alloc ?_ _ | refine Kp.drew ?_ | refine Kp.drewN ?_ _)⟩

set_option maxHeartbeats 800000 in
theorem radd_any (ax ay bx bz : Int) (w : World) : Calls Tryd.prog 31 #[vV ax ay, vV bx bz] w fun e w' => e = .returned (vV (w64 (ax + bx)) (w64 (ay + bz))) ∧ Nw w w' := by
  go_enter Tryd.func31, Tryd.ntmps31
  go_wp2
  exact bodyPost_ret (v := vV (w64 (ax + bx)) (w64 (ay + bz))) (by simp [results, Tryd.results31, go_sem]; exact ⟨rfl, rfl⟩) rfl ⟨rfl, by repeat (first | exact Kp.refl _ _ | refine Kp.alloc ?_ _ | refine Kp.drew ?_ | refine Kp.drewN ?_ _)⟩

set_option maxHeartbeats 800000 in
theorem rsub_any (ax ay bx bz : Int) (w : World) : Calls Tryd.prog 68 #[vV ax ay, vV bx bz] w fun e w' => e = .returned (vV (w64 (ax - bx)) (w64 (ay - bz))) ∧ Nw w w' := by
  go_enter Tryd.func68, Tryd.ntmps68
  go_wp2
  exact bodyPost_ret (v := vV (w64 (ax - bx)) (w64 (ay - bz))) (by simp [results, Tryd.results68, go_sem]; exact ⟨rfl, rfl⟩) rfl ⟨rfl, by repeat (first | exact Kp.refl _ _ | refine Kp.alloc ?_ _ | refine Kp.drew ?_ | refine Kp.drewN ?_ _)⟩

set_option maxHeartbeats 800000 in
theorem rdot_any (ax ay bx bz : Int) (w : World) : Calls Tryd.prog 32 #[vV ax ay, vV bx bz] w fun e w' => e = .returned (.int .i64 (dotV ax ay bx bz)) ∧ Nw w w' := by
  rw [← dot_way]
  go_enter Tryd.func32, Tryd.ntmps32
  go_wp2
  go_ret
  exact ⟨rfl, by repeat (first | exact Kp.refl _ _ | refine Kp.alloc ?_ _ | refine Kp.drew ?_ | refine Kp.drewN ?_ _)⟩

set_option maxHeartbeats 800000 in
theorem rcross_any (ax ay bx bz : Int) (w : World) : Calls Tryd.prog 33 #[vV ax ay, vV bx bz] w fun e w' => e = .returned (.int .i64 (crossV ax ay bx bz)) ∧ Nw w w' := by
  rw [← cross_way]
  go_enter Tryd.func33, Tryd.ntmps33
  go_wp2
  go_ret
  exact ⟨rfl, by repeat (first | exact Kp.refl _ _ | refine Kp.alloc ?_ _ | refine Kp.drew ?_ | refine Kp.drewN ?_ _)⟩

end Go.Proofs.YtahamffngmdjfaaDoor.W
