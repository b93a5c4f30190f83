/-
  SymmetryThen: the call returns true. Condition: the table of the quarter turns.
-/
import Derived.Test.YtahamffngmdjfaaDoorYA
namespace Go.Proofs.YtahamffngmdjfaaDoor.W
open Go.RowKit Go.Proofs.YtahamffngmdjfaaDoor.V Go.Proofs.YtahamffngmdjfaaDoor.G


set_option maxRecDepth 100000 in
set_option maxHeartbeats 3200000 in
theorem symmetryThen_any (t u : Int) (w : World) (hT : TabQ w) : Calls Tryd.prog 4 #[.int .i64 t, .int .i64 u] w fun e w' => e = .returned (.bool true) ∧ Nw w w' := by
  have c0 := awake9_any w hT
  have c1 := fun w1 => tthen_any t u w1
  have c2 := fun p : KeptW w => rtthen_any t u p.wd
  have c3 := fun w1 => tinverse_any t w1
  have c4 := fun p : KeptW w => rtinverse_any t p.wd
  generalize thenT t u = x1 at *
  generalize invT t = x2 at *
  clear hT
  go_enter Tryd.func4, Tryd.ntmps4
  go_wp2_with (first | (go_at_call 9; ((with_reducible refine (Calls.kept_first c0).mono ?_); rintro e _ ⟨rfl, p, rfl⟩)) | (go_at_call 22; ((with_reducible refine (c1 _).mono ?_); rintro e _ ⟨rfl, rfl⟩)) | (go_at_call 23; ((with_reducible refine (Calls.kept_of (c2 _)).mono ?_); rintro e _ ⟨rfl, p, rfl⟩)) | (go_at_call 24; ((with_reducible refine (c3 _).mono ?_); rintro e _ ⟨rfl, rfl⟩)) | (go_at_call 25; ((with_reducible refine (Calls.kept_of (c4 _)).mono ?_); rintro e _ ⟨rfl, p, rfl⟩)) | fail)
  go_ret
  exact ⟨by simp, p.since⟩
end Go.Proofs.YtahamffngmdjfaaDoor.W
