/-
  vec and its reference: what each function of numbers and vectors returns. No condition but that of Within's least number, where it says so.
-/
import Derived.Test.YtahamffngmdjfaaVPl
namespace Go.Proofs.Ytahamffngmdjfaa.W
open Go.RowKit Go.Proofs.Ytahamffngmdjfaa.V

abbrev vV (x y : Int) : Value := .agg #[.int .i64 x, .int .i64 y]
theorem nw_drewN (w : World) (n : Nat) : Nw w (w.drewN n) := (Kp.refl _ w).drewN n
theorem nw_alloc (w : World) (o : Obj) : Nw w (w.alloc o) := (Kp.refl _ w).alloc o

set_option maxHeartbeats 800000 in
theorem add_any (ax ay bx bz : Int) (w : World) : Calls Try.prog 22 #[vV ax ay, vV bx bz] w fun e w' => e = .returned (vV (w64 (ax + bx)) (w64 (ay + bz))) ∧ Nw w w' := by
  go_enter Try.func22, Try.ntmps22
  go_wp2
  exact bodyPost_ret (v := vV (w64 (ax + bx)) (w64 (ay + bz))) (by simp [results, Try.results22, go_sem]; exact ⟨rfl, rfl⟩) rfl ⟨rfl, by repeat (first | exact Kp.refl _ _ | refine Kp.alloc ?_ _ | refine Kp.drew ?_ | refine Kp.drewN ?_ _)⟩

set_option maxHeartbeats 800000 in
theorem sub_any (ax ay bx bz : Int) (w : World) : Calls Try.prog 24 #[vV ax ay, vV bx bz] w fun e w' => e = .returned (vV (w64 (ax - bx)) (w64 (ay - bz))) ∧ Nw w w' := by
  go_enter Try.func24, Try.ntmps24
  go_wp2
  exact bodyPost_ret (v := vV (w64 (ax - bx)) (w64 (ay - bz))) (by simp [results, Try.results24, go_sem]; exact ⟨rfl, rfl⟩) rfl ⟨rfl, by repeat (first | exact Kp.refl _ _ | refine Kp.alloc ?_ _ | refine Kp.drew ?_ | refine Kp.drewN ?_ _)⟩

set_option maxHeartbeats 800000 in
theorem neg_any (ax ay : Int) (w : World) : Calls Try.prog 26 #[vV ax ay] w fun e w' => e = .returned (vV (w64 (-ax)) (w64 (-ay))) ∧ Nw w w' := by
  go_enter Try.func26, Try.ntmps26
  go_wp2
  exact bodyPost_ret (v := vV (w64 (-ax)) (w64 (-ay))) (by simp [results, Try.results26, go_sem]; exact ⟨rfl, rfl⟩) rfl ⟨rfl, by repeat (first | exact Kp.refl _ _ | refine Kp.alloc ?_ _ | refine Kp.drew ?_ | refine Kp.drewN ?_ _)⟩

set_option maxHeartbeats 800000 in
theorem scale_any (ax ay n : Int) (w : World) : Calls Try.prog 28 #[vV ax ay, .int .i64 n] w fun e w' => e = .returned (vV (w64 (n * ax)) (w64 (n * ay))) ∧ Nw w w' := by
  go_enter Try.func28, Try.ntmps28
  go_wp2
  exact bodyPost_ret (v := vV (w64 (n * ax)) (w64 (n * ay))) (by simp [results, Try.results28, go_sem]; exact ⟨rfl, rfl⟩) rfl ⟨rfl, by repeat (first | exact Kp.refl _ _ | refine Kp.alloc ?_ _ | refine Kp.drew ?_ | refine Kp.drewN ?_ _)⟩

set_option maxHeartbeats 800000 in
theorem dot_any (ax ay bx bz : Int) (w : World) : Calls Try.prog 30 #[vV ax ay, vV bx bz] w fun e w' => e = .returned (.int .i64 (dotV ax ay bx bz)) ∧ Nw w w' := by
  rw [← dot_way]
  go_enter Try.func30, Try.ntmps30
  go_wp2
  go_ret
  exact ⟨rfl, by repeat (first | exact Kp.refl _ _ | refine Kp.alloc ?_ _ | refine Kp.drew ?_ | refine Kp.drewN ?_ _)⟩

set_option maxHeartbeats 800000 in
theorem cross_any (ax ay bx bz : Int) (w : World) : Calls Try.prog 32 #[vV ax ay, vV bx bz] w fun e w' => e = .returned (.int .i64 (crossV ax ay bx bz)) ∧ Nw w w' := by
  rw [← cross_way]
  go_enter Try.func32, Try.ntmps32
  go_wp2
  go_ret
  exact ⟨rfl, by repeat (first | exact Kp.refl _ _ | refine Kp.alloc ?_ _ | refine Kp.drew ?_ | refine Kp.drewN ?_ _)⟩

set_option maxHeartbeats 800000 in
theorem radd_any (ax ay bx bz : Int) (w : World) : Calls Try.prog 23 #[vV ax ay, vV bx bz] w fun e w' => e = .returned (vV (w64 (ax + bx)) (w64 (ay + bz))) ∧ Nw w w' := by
  go_enter Try.func23, Try.ntmps23
  go_wp2
  exact bodyPost_ret (v := vV (w64 (ax + bx)) (w64 (ay + bz))) (by simp [results, Try.results23, go_sem]; exact ⟨rfl, rfl⟩) rfl ⟨rfl, by repeat (first | exact Kp.refl _ _ | refine Kp.alloc ?_ _ | refine Kp.drew ?_ | refine Kp.drewN ?_ _)⟩

set_option maxHeartbeats 800000 in
theorem rsub_any (ax ay bx bz : Int) (w : World) : Calls Try.prog 25 #[vV ax ay, vV bx bz] w fun e w' => e = .returned (vV (w64 (ax - bx)) (w64 (ay - bz))) ∧ Nw w w' := by
  go_enter Try.func25, Try.ntmps25
  go_wp2
  exact bodyPost_ret (v := vV (w64 (ax - bx)) (w64 (ay - bz))) (by simp [results, Try.results25, go_sem]; exact ⟨rfl, rfl⟩) rfl ⟨rfl, by repeat (first | exact Kp.refl _ _ | refine Kp.alloc ?_ _ | refine Kp.drew ?_ | refine Kp.drewN ?_ _)⟩

set_option maxHeartbeats 800000 in
theorem rneg_any (ax ay : Int) (w : World) : Calls Try.prog 27 #[vV ax ay] w fun e w' => e = .returned (vV (w64 (-ax)) (w64 (-ay))) ∧ Nw w w' := by
  go_enter Try.func27, Try.ntmps27
  go_wp2
  exact bodyPost_ret (v := vV (w64 (-ax)) (w64 (-ay))) (by simp [results, Try.results27, go_sem]; exact ⟨rfl, rfl⟩) rfl ⟨rfl, by repeat (first | exact Kp.refl _ _ | refine Kp.alloc ?_ _ | refine Kp.drew ?_ | refine Kp.drewN ?_ _)⟩

set_option maxHeartbeats 800000 in
theorem rscale_any (ax ay n : Int) (w : World) : Calls Try.prog 29 #[vV ax ay, .int .i64 n] w fun e w' => e = .returned (vV (w64 (n * ax)) (w64 (n * ay))) ∧ Nw w w' := by
  go_enter Try.func29, Try.ntmps29
  go_wp2
  exact bodyPost_ret (v := vV (w64 (n * ax)) (w64 (n * ay))) (by simp [results, Try.results29, go_sem]; exact ⟨rfl, rfl⟩) rfl ⟨rfl, by repeat (first | exact Kp.refl _ _ | refine Kp.alloc ?_ _ | refine Kp.drew ?_ | refine Kp.drewN ?_ _)⟩

set_option maxHeartbeats 800000 in
theorem rdot_any (ax ay bx bz : Int) (w : World) : Calls Try.prog 31 #[vV ax ay, vV bx bz] w fun e w' => e = .returned (.int .i64 (dotV ax ay bx bz)) ∧ Nw w w' := by
  rw [← dot_way]
  go_enter Try.func31, Try.ntmps31
  go_wp2
  go_ret
  exact ⟨rfl, by repeat (first | exact Kp.refl _ _ | refine Kp.alloc ?_ _ | refine Kp.drew ?_ | refine Kp.drewN ?_ _)⟩

set_option maxHeartbeats 800000 in
theorem rcross_any (ax ay bx bz : Int) (w : World) : Calls Try.prog 33 #[vV ax ay, vV bx bz] w fun e w' => e = .returned (.int .i64 (crossV ax ay bx bz)) ∧ Nw w w' := by
  rw [← cross_way]
  go_enter Try.func33, Try.ntmps33
  go_wp2
  go_ret
  exact ⟨rfl, by repeat (first | exact Kp.refl _ _ | refine Kp.alloc ?_ _ | refine Kp.drew ?_ | refine Kp.drewN ?_ _)⟩

end Go.Proofs.Ytahamffngmdjfaa.W
