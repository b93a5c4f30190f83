/-
  seg and its reference: PointOf and Whole; Meet and Share of seg: what each returns. No condition.
-/
import Derived.Test.YtlogihcmmoldkaaK23
namespace Go.Proofs.Ytlogihcmmoldkaa.W
open Go.RowKit Go.Proofs.Ytlogihcmmoldkaa.V Go.Proofs.Ytlogihcmmoldkaa.G

def wholeV (x y d : Int) : Value := if validP x y d && (d == 1) then .tuple #[vV x y, .bool true] else .tuple #[vV 0 0, .bool false]

set_option maxHeartbeats 1600000 in
theorem meetK_any (ax ay bx bz cx cy dx dy : Int) (w : World) : Calls Try.prog 78 #[sV ax ay bx bz, sV cx cy dx dy] w fun e w' => e = .returned (.int .i64 (kindS ax ay bx bz cx cy dx dy)) ∧ Nw w w' := by
  have c1 := fun w1 => meet_any ax ay bx bz cx cy dx dy w1
  unfold meetV at c1
  generalize kindS ax ay bx bz cx cy dx dy = k at *
  generalize partsS ax ay bx bz cx cy dx dy = ps at *
  go_enter Try.func78, Try.ntmps78
  go_wp2_with (first | (go_at_call 86; ((with_reducible refine (Calls.kept_first (c1 _)).mono ?_); rintro e _ ⟨rfl, p, rfl⟩)) | fail)
  go_ret
  exact ⟨rfl, (((nw_alloc _ _).alloc _).tr p.since).alloc _⟩

def shareV (ax ay bx bz cx cy dx dy : Int) : Value := .tuple #[sV (shareS ax ay bx bz cx cy dx dy).1.1 (shareS ax ay bx bz cx cy dx dy).1.2 (shareS ax ay bx bz cx cy dx dy).2.1 (shareS ax ay bx bz cx cy dx dy).2.2, .bool (kindS ax ay bx bz cx cy dx dy == 3)]
end Go.Proofs.Ytlogihcmmoldkaa.W
