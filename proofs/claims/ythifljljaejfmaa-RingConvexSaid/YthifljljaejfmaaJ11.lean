/-
  seg and its reference: PointOf and Whole; Meet and Share of seg: what each returns. No condition.
-/
import Derived.Test.YthifljljaejfmaaJ10
namespace Go.Proofs.Ythifljljaejfmaa.W
open Go.RowKit Go.Proofs.Ythifljljaejfmaa.V Go.Proofs.Ythifljljaejfmaa.G

def wholeV (x y d : Int) : Value := if validP x y d && (d == 1) then .tuple #[vV x y, .bool true] else .tuple #[vV 0 0, .bool false]

set_option maxHeartbeats 800000 in
theorem pointOf_any (x y : Int) (w : World) : Calls Try.prog 36 #[vV x y] w fun e w' => e = .returned (pV x y 1) ∧ Nw w w' := by
  go_enter Try.func36, Try.ntmps36
  go_wp2
  exact bodyPost_ret (v := pV x y 1) (by simp [results, Try.results36, go_sem]) rfl ⟨rfl, by repeat (first | exact Kp.refl _ _ | refine Kp.alloc ?_ _ | refine Kp.drew ?_ | refine Kp.drewN ?_ _)⟩

set_option maxHeartbeats 1600000 in
theorem meetK_any (ax ay bx bz cx cy dx dy : Int) (w : World) : Calls Try.prog 40 #[sV ax ay bx bz, sV cx cy dx dy] w fun e w' => e = .returned (.int .i64 (kindS ax ay bx bz cx cy dx dy)) ∧ Nw w w' := by
  have c1 := fun w1 => meet_any ax ay bx bz cx cy dx dy w1
  unfold meetV at c1
  generalize kindS ax ay bx bz cx cy dx dy = k at *
  generalize partsS ax ay bx bz cx cy dx dy = ps at *
  go_enter Try.func40, Try.ntmps40
  go_wp2_with (first | (go_at_call 48; ((with_reducible refine (Calls.kept_first (c1 _)).mono ?_); rintro e _ ⟨rfl, p, rfl⟩)) | fail)
  go_ret
  exact ⟨rfl, (((nw_alloc _ _).alloc _).tr p.since).alloc _⟩

def shareV (ax ay bx bz cx cy dx dy : Int) : Value := .tuple #[sV (shareS ax ay bx bz cx cy dx dy).1.1 (shareS ax ay bx bz cx cy dx dy).1.2 (shareS ax ay bx bz cx cy dx dy).2.1 (shareS ax ay bx bz cx cy dx dy).2.2, .bool (kindS ax ay bx bz cx cy dx dy == 3)]
end Go.Proofs.Ythifljljaejfmaa.W
