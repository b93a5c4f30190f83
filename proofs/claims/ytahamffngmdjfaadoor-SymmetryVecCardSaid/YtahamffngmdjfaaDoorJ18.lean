/-
  SymmetryVec: the call returns true. Conditions: the table of the quarter turns; coordinates that an int holds.
-/
import Derived.Test.YtahamffngmdjfaaDoorJ08
import Derived.Test.YtahamffngmdjfaaDoorJ17
namespace Go.Proofs.YtahamffngmdjfaaDoor.W
open Go.RowKit Go.Proofs.YtahamffngmdjfaaDoor.V Go.Proofs.YtahamffngmdjfaaDoor.G


set_option maxRecDepth 100000 in
set_option maxHeartbeats 3200000 in
theorem symmetryVec_any (t g a b c d : Int) (w : World) (hT : TabQ w) (ha : I64 a) (hb : I64 b) (hc : I64 c) (hd : I64 d) : Calls Tryd.prog 3 #[.int .i64 t, .int .i64 g, bV a b c d] w fun e w' => e = .returned (.bool true) ∧ Nw w w' := by
  have hmix := mixed7
  have hT0 := hT.nw (nw_alloc w (.cells #[.int .i64 a, .int .i64 b, .int .i64 c, .int .i64 d] 25))
  have c0 := fun w1 h => awake9_any w1 h
  have c0 := c0 (w.alloc (.cells #[.int .i64 a, .int .i64 b, .int .i64 c, .int .i64 d] 25)) hT0
  have v1 := fun p : KeptW (w.alloc (.cells #[.int .i64 a, .int .i64 b, .int .i64 c, .int .i64 d] 25)) => tvalid_any t p.wd
  have v2 := fun p : KeptW (w.alloc (.cells #[.int .i64 a, .int .i64 b, .int .i64 c, .int .i64 d] 25)) => rtvalid_any t p.wd
  have v3 := fun p : KeptW (w.alloc (.cells #[.int .i64 a, .int .i64 b, .int .i64 c, .int .i64 d] 25)) => odd_any t p.wd
  have v4 := fun p : KeptW (w.alloc (.cells #[.int .i64 a, .int .i64 b, .int .i64 c, .int .i64 d] 25)) => rodd_any t p.wd
  have v5 := fun p : KeptW (w.alloc (.cells #[.int .i64 a, .int .i64 b, .int .i64 c, .int .i64 d] 25)) => mirrors_any t p.wd
  have v6 := fun p : KeptW (w.alloc (.cells #[.int .i64 a, .int .i64 b, .int .i64 c, .int .i64 d] 25)) => rmirrors_any t p.wd
  have v7 := fun p : KeptW (w.alloc (.cells #[.int .i64 a, .int .i64 b, .int .i64 c, .int .i64 d] 25)) => grain_any t g p.wd
  have v8 := fun p : KeptW (w.alloc (.cells #[.int .i64 a, .int .i64 b, .int .i64 c, .int .i64 d] 25)) => rgrain_any t g p.wd
  have c1 := fun p : KeptW (w.alloc (.cells #[.int .i64 a, .int .i64 b, .int .i64 c, .int .i64 d] 25)) => tvec_any t a b p.wd (hT0.nw p.since) ha hb
  have c2 := fun p : KeptW (w.alloc (.cells #[.int .i64 a, .int .i64 b, .int .i64 c, .int .i64 d] 25)) => rtvec_any t a b p.wd ha hb
  have c3 := fun p : KeptW (w.alloc (.cells #[.int .i64 a, .int .i64 b, .int .i64 c, .int .i64 d] 25)) => tbox_any t a b c d p.wd (hT0.nw p.since) ha hb hc hd
  have c4 := fun p : KeptW (w.alloc (.cells #[.int .i64 a, .int .i64 b, .int .i64 c, .int .i64 d] 25)) => rtbox_any t a b c d p.wd ha hb hc hd
  generalize validT t = x1 at *
  generalize oddT t = x2 at *
  generalize mirT t = x3 at *
  generalize grainT t g = x4 at *
  obtain ⟨⟨m1, m2⟩, hm⟩ : ∃ m, mapV t a b = m := ⟨_, rfl⟩
  obtain ⟨⟨r1, r2, r3, r4⟩, hr⟩ : ∃ m, mapB t a b c d = m := ⟨_, rfl⟩
  rw [hm] at c1 c2
  rw [hr] at c3 c4
  have e1 := fun w1 => eql_vecg m1 m2 m1 m2 w1
  have e2 := fun w1 => eql_box r1 r2 r3 r4 r1 r2 r3 r4 w1
  simp only [beq_self_eq_true, Bool.and_self] at e1 e2
  have g1 : (x1 == x1) = true := by simp
  have g2 : (x2 == x2) = true := by simp
  have g3 : (x3 == x3) = true := by simp
  clear hm hr ha hb hc hd hT hT0
  have hb0 := Blk.new_at w 25 #[.int .i64 a, .int .i64 b, .int .i64 c, .int .i64 d] (n := w.heap.size) (by simp)
  have hk0 : ∀ p : KeptW (w.alloc (.cells #[.int .i64 a, .int .i64 b, .int .i64 c, .int .i64 d] 25)), Blk p.wd (w.heap.size) 25 #[.int .i64 a, .int .i64 b, .int .i64 c, .int .i64 d] := fun p => hb0.kept p
  have q0 := fun p => (hk0 p).cell 0
  have q1 := fun p => (hk0 p).cell 1
  have q2 := fun p => (hk0 p).cell 2
  have q3 := fun p => (hk0 p).cell 3
  skip
  clear hb0 hk0
  go_enter Tryd.func3, Tryd.ntmps3
  go_upto_region 3 with (first | (go_at_call 9; ((with_reducible refine (Calls.kept_first c0).mono ?_); rintro e _ ⟨rfl, p, rfl⟩)) | fail)
  refine wp_region_kept (p.since) (by assumption) (by kernel_rfl) ?_
  repeat (with_reducible refine wpQuiet_step (fun K hK => ?_); go_simp; first | ((with_reducible refine hK _ ?_); clear hK K) | (with_reducible apply Exists.intro; (with_reducible refine ⟨fun _ => ?_, hK _ ?_⟩); ((first | (go_at_call 10; with_reducible exact Calls.kept_same (v1 _)) | (go_at_call 11; with_reducible exact Calls.kept_same (v2 _)) | (go_at_call 12; with_reducible exact Calls.kept_of (c1 _)) | (go_at_call 13; with_reducible exact Calls.kept_of (c2 _)) | (go_at_call 14; with_reducible exact Calls.kept_of (c3 _)) | (go_at_call 15; with_reducible exact Calls.kept_of (c4 _)) | (go_at_call 16; with_reducible exact Calls.kept_same (v3 _)) | (go_at_call 17; with_reducible exact Calls.kept_same (v4 _)) | (go_at_call 18; with_reducible exact Calls.kept_same (v5 _)) | (go_at_call 19; with_reducible exact Calls.kept_same (v6 _)) | (go_at_call 20; with_reducible exact Calls.kept_same (v7 _)) | (go_at_call 21; with_reducible exact Calls.kept_same (v8 _)) | fail)); clear hK K) | (simp only [undef, reduceCtorEq, if_false]; (with_reducible refine hK _ ?_); clear hK K))
  with_reducible refine wpQuiet_nil ?_
  rintro _ ⟨p, rfl⟩
  go_wp2_with fail
  go_ret
  exact ⟨rfl, (nw_alloc _ _).tr p.since⟩
end Go.Proofs.YtahamffngmdjfaaDoor.W
