/-
  SegPoints: the call returns true. No condition.
-/
import Derived.Test.YtgmojgeclljajaaGSE
import Derived.Test.YtgmojgeclljajaaGSC
namespace Go.Proofs.Ytgmojgeclljajaa.W
open Go.RowKit Go.Proofs.Ytgmojgeclljajaa.V Go.Proofs.Ytgmojgeclljajaa.G

set_option maxRecDepth 100000 in
set_option maxHeartbeats 3200000 in
theorem segPoints_any (x y d x' y' d' : Int) (w : World) : Calls Try.prog 13 #[pV x y d, pV x' y' d'] w fun e w' => e = .returned (.bool true) ∧ Nw w w' := by
  have hmix := mixed7
  have c0 := fun w1 => awake7_any w1
  have c1 := fun w1 => validPoint_any x y d w1
  have c2 := fun w1 => rvalidPoint_any x y d w1
  have c3 := fun w1 => comparePoints_any x y d x' y' d' w1
  have c4 := fun w1 => rcomparePoints_any x y d x' y' d' w1
  generalize validP x y d = a at *
  generalize cmpPt x y d x' y' d' = b at *
  have e1 : (a == a) = true := by simp
  have hb0 := Blk.new_at w 53 #[.int .i64 x, .int .i64 y, .int .i64 d] (n := w.heap.size) (by simp)
  have hb1 := Blk.new_at (w.alloc (.cells #[.int .i64 x, .int .i64 y, .int .i64 d] 53)) 53 #[.int .i64 x', .int .i64 y', .int .i64 d'] (n := w.heap.size + 1) (by simp)
  have hk0 : ∀ p : KeptW ((w.alloc (.cells #[.int .i64 x, .int .i64 y, .int .i64 d] 53)).alloc (.cells #[.int .i64 x', .int .i64 y', .int .i64 d'] 53)), Blk p.wd (w.heap.size) 53 #[.int .i64 x, .int .i64 y, .int .i64 d] := fun p => (hb0.alloc _).kept p
  have q0 := fun p => (hk0 p).cell 0
  have q1 := fun p => (hk0 p).cell 1
  have q2 := fun p => (hk0 p).cell 2
  have hk1 : ∀ p : KeptW ((w.alloc (.cells #[.int .i64 x, .int .i64 y, .int .i64 d] 53)).alloc (.cells #[.int .i64 x', .int .i64 y', .int .i64 d'] 53)), Blk p.wd (w.heap.size + 1) 53 #[.int .i64 x', .int .i64 y', .int .i64 d'] := fun p => hb1.kept p
  have q3 := fun p => (hk1 p).cell 0
  have q4 := fun p => (hk1 p).cell 1
  have q5 := fun p => (hk1 p).cell 2
  skip
  clear hb0 hk0 hb1 hk1
  go_enter Try.func13, Try.ntmps13
  go_upto_region 3 with (first | (go_at_call 49; ((with_reducible refine (Calls.kept_first (c0 _)).mono ?_); rintro e _ ⟨rfl, p, rfl⟩)) | fail)
  refine wp_region_kept (p.since) (by assumption) (by kernel_rfl) ?_
  repeat (with_reducible refine wpQuiet_step (fun K hK => ?_); go_simp; first | ((with_reducible refine hK _ ?_); clear hK K) | (with_reducible apply Exists.intro; (with_reducible refine ⟨fun _ => ?_, hK _ ?_⟩); ((first | (go_at_call 66; with_reducible exact Calls.kept_of (c1 _)) | (go_at_call 67; with_reducible exact Calls.kept_of (c2 _)) | (go_at_call 68; with_reducible exact Calls.kept_of (c3 _)) | (go_at_call 69; with_reducible exact Calls.kept_of (c4 _)) | fail)); clear hK K))
  with_reducible refine wpQuiet_nil ?_
  rintro _ ⟨p, rfl⟩
  go_wp2_with fail
  go_ret
  exact ⟨by simp, ((nw_alloc _ _).alloc _).tr p.since⟩
end Go.Proofs.Ytgmojgeclljajaa.W
