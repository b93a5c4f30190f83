/-
  awake: the examples of layer 9 hold. Condition: the table of the quarter turns.
-/
import Derived.Test.YtahamffngmdjfaaDoorJ04
import Derived.Test.YtahamffngmdjfaaDoorJ07
namespace Go.Proofs.YtahamffngmdjfaaDoor.W
open Go.RowKit Go.Proofs.YtahamffngmdjfaaDoor.V Go.Proofs.YtahamffngmdjfaaDoor.G


set_option maxRecDepth 100000 in
set_option maxHeartbeats 3200000 in
theorem awake9_any (w : World) (hT : TabQ w) : Calls Tryd.prog 9 #[] w fun e w' => e = .returned (.bool true) ∧ Nw w w' := by
  have i3 : I64 3 ∧ I64 1 := by unfold I64; omega
  have c1 := fun w1 h => tvec_any 1 3 1 w1 h i3.1 i3.2
  have c4 := fun w1 h => tvec_any 4 3 1 w1 h i3.1 i3.2
  have c5 := fun w1 h => tvec_any 5 3 1 w1 h i3.1 i3.2
  have d1 := fun w1 => tthen_any 4 1 w1
  have d2 := fun w1 => tthen_any 1 4 w1
  have d3 := fun w1 => tvalid_any 7 w1
  rw [show mapV 1 3 1 = (-1, 3) by decide +kernel] at c1
  rw [show mapV 4 3 1 = (-3, 1) by decide +kernel] at c4
  rw [show mapV 5 3 1 = (-1, -3) by decide +kernel] at c5
  rw [show thenT 4 1 = 5 by decide +kernel] at d1
  rw [show thenT 1 4 = 7 by decide +kernel] at d2
  rw [show validT 7 = true by decide +kernel] at d3
  have e1 := fun w1 => eql_vecg (-1) 3 (-1) 3 w1
  have e4 := fun w1 => eql_vecg (-3) 1 (-3) 1 w1
  have e5 := fun w1 => eql_vecg (-1) (-3) (-1) (-3) w1
  simp only [beq_self_eq_true, Bool.and_self] at e1 e4 e5
  go_enter Tryd.func9, Tryd.ntmps9
  go_upto_region 2 with fail
  have hb := Blk.new w 23 #[.int .i64 3, .int .i64 1]
  have hn := nw_alloc w (.cells #[.int .i64 3, .int .i64 1] 23)
  generalize hwd : w.alloc (.cells #[.int .i64 3, .int .i64 1] 23) = wd at *
  clear hwd
  have hTd := hT.nw hn
  have HN := Lib.hid hn
  have q0 := fun p : KeptW wd => (hb.kept p).cell 0
  have q1 := fun p : KeptW wd => (hb.kept p).cell 1
  have z0 := hb.cell 0
  have z1 := hb.cell 1
  have c1 := c1 wd hTd
  have c4 := fun p : KeptW wd => c4 p.wd (hTd.nw p.since)
  have c5 := fun p : KeptW wd => c5 p.wd (hTd.nw p.since)
  clear hb hn hTd hT
  go_wp2_with (first | (go_at_call 12; ((with_reducible refine (Calls.kept_first (c1)).mono ?_); rintro e _ ⟨rfl, p, rfl⟩)) | (go_at_call 12; ((with_reducible refine (Calls.kept_of (c4 _)).mono ?_); rintro e _ ⟨rfl, p, rfl⟩)) | (go_at_call 12; ((with_reducible refine (Calls.kept_of (c5 _)).mono ?_); rintro e _ ⟨rfl, p, rfl⟩)) | (go_at_call 22; ((with_reducible refine (d1 _).mono ?_); rintro e _ ⟨rfl, rfl⟩)) | (go_at_call 22; ((with_reducible refine (d2 _).mono ?_); rintro e _ ⟨rfl, rfl⟩)) | (go_at_call 10; ((with_reducible refine (d3 _).mono ?_); rintro e _ ⟨rfl, rfl⟩)) | fail)
  go_ret
  exact ⟨rfl, HN.out.tr p.since⟩
end Go.Proofs.YtahamffngmdjfaaDoor.W
