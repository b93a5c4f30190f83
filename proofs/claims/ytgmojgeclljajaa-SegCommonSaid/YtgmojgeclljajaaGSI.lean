/-
  SegCommon: the call returns true. No condition.
-/
import Derived.Test.YtgmojgeclljajaaGPe
import Derived.Test.YtgmojgeclljajaaGQ2
namespace Go.Proofs.Ytgmojgeclljajaa.W
open Go.RowKit Go.Proofs.Ytgmojgeclljajaa.V Go.Proofs.Ytgmojgeclljajaa.G

set_option maxRecDepth 100000 in
set_option maxHeartbeats 6400000 in
theorem common_none (ax ay bx bz cx cy dx dy px py : Int)  (w : World)
    (c1 : ∀ w1, Calls Try.prog 54 #[sV ax ay bx bz] w1 fun e w' => e = .returned (.bool true) ∧ Nw w1 w') (c2 : ∀ w1, Calls Try.prog 54 #[sV cx cy dx dy] w1 fun e w' => e = .returned (.bool true) ∧ Nw w1 w')
    (c3 : ∀ w1, Calls Try.prog 40 #[vV px py, .int .i64 4000] w1 fun e w' => e = .returned (.bool true) ∧ Nw w1 w')
    (cA : ∀ w1, Calls Try.prog 50 #[sV ax ay bx bz, sV cx cy dx dy] w1 fun e w' => e = .returned (.tuple #[pV 0 0 0, .bool false]) ∧ Nw w1 w')
    (cS : ∀ w1, Calls Try.prog 52 #[sV ax ay bx bz, sV cx cy dx dy] w1 fun e w' => e = .returned (.tuple #[sV 0 0 0 0, .bool false]) ∧ Nw w1 w')
    (cK : ∀ w1, Calls Try.prog 56 #[sV ax ay bx bz, sV cx cy dx dy] w1 fun e w' => e = .returned (.int .i64 0) ∧ Nw w1 w')
    (b1 b2 : Bool) (p1 : ∀ w1, Calls Try.prog 60 #[sV ax ay bx bz, vV px py] w1 fun e w' => e = .returned (.bool b1) ∧ Nw w1 w') (p2 : ∀ w1, Calls Try.prog 60 #[sV cx cy dx dy, vV px py] w1 fun e w' => e = .returned (.bool b2) ∧ Nw w1 w')
    (hb : (b1 && b2) = false) : Calls Try.prog 16 #[sV ax ay bx bz, sV cx cy dx dy, vV px py] w fun e w' => e = .returned (.bool true) ∧ Nw w w' := by
  have hmix := mixed7
  have c0 := fun w1 => awake7_any w1
  have pp := fun w1 => pointOf_any px py w1
  have hF : ∀ w', Nw (((w.alloc (.cells #[.int .i64 ax, .int .i64 ay, .int .i64 bx, .int .i64 bz] 51)).alloc (.cells #[.int .i64 cx, .int .i64 cy, .int .i64 dx, .int .i64 dy] 51)).alloc (.cells #[.int .i64 px, .int .i64 py] 23)) w' → Blk w' w.heap.size 51 #[.int .i64 ax, .int .i64 ay, .int .i64 bx, .int .i64 bz] ∧ Blk w' (w.heap.size + 1) 51 #[.int .i64 cx, .int .i64 cy, .int .i64 dx, .int .i64 dy] ∧ Blk w' (w.heap.size + 1 + 1) 23 #[.int .i64 px, .int .i64 py] := fun w' h => ⟨(((Blk.new_at w 51 #[.int .i64 ax, .int .i64 ay, .int .i64 bx, .int .i64 bz] (n := w.heap.size) rfl).alloc _).alloc _).kp h id, ((Blk.new_at _ 51 #[.int .i64 cx, .int .i64 cy, .int .i64 dx, .int .i64 dy] (n := w.heap.size + 1) (by simp)).alloc _).kp h id, (Blk.new_at _ 23 #[.int .i64 px, .int .i64 py] (n := w.heap.size + 1 + 1) (by simp)).kp h id⟩
  have HF := Lib.hid hF
  clear hF
  have hb0 := Blk.new_at w 51 #[.int .i64 ax, .int .i64 ay, .int .i64 bx, .int .i64 bz] (n := w.heap.size) (by simp)
  have hb1 := Blk.new_at (w.alloc (.cells #[.int .i64 ax, .int .i64 ay, .int .i64 bx, .int .i64 bz] 51)) 51 #[.int .i64 cx, .int .i64 cy, .int .i64 dx, .int .i64 dy] (n := w.heap.size + 1) (by simp)
  have hb2 := Blk.new_at ((w.alloc (.cells #[.int .i64 ax, .int .i64 ay, .int .i64 bx, .int .i64 bz] 51)).alloc (.cells #[.int .i64 cx, .int .i64 cy, .int .i64 dx, .int .i64 dy] 51)) 23 #[.int .i64 px, .int .i64 py] (n := w.heap.size + 1 + 1) (by simp)
  have hk0 : ∀ p : KeptW (((w.alloc (.cells #[.int .i64 ax, .int .i64 ay, .int .i64 bx, .int .i64 bz] 51)).alloc (.cells #[.int .i64 cx, .int .i64 cy, .int .i64 dx, .int .i64 dy] 51)).alloc (.cells #[.int .i64 px, .int .i64 py] 23)), Blk p.wd (w.heap.size) 51 #[.int .i64 ax, .int .i64 ay, .int .i64 bx, .int .i64 bz] := fun p => ((hb0.alloc _).alloc _).kept p
  have q0 := fun p => (hk0 p).cell 0
  have q1 := fun p => (hk0 p).cell 1
  have q2 := fun p => (hk0 p).cell 2
  have q3 := fun p => (hk0 p).cell 3
  have hk1 : ∀ p : KeptW (((w.alloc (.cells #[.int .i64 ax, .int .i64 ay, .int .i64 bx, .int .i64 bz] 51)).alloc (.cells #[.int .i64 cx, .int .i64 cy, .int .i64 dx, .int .i64 dy] 51)).alloc (.cells #[.int .i64 px, .int .i64 py] 23)), Blk p.wd (w.heap.size + 1) 51 #[.int .i64 cx, .int .i64 cy, .int .i64 dx, .int .i64 dy] := fun p => (hb1.alloc _).kept p
  have q4 := fun p => (hk1 p).cell 0
  have q5 := fun p => (hk1 p).cell 1
  have q6 := fun p => (hk1 p).cell 2
  have q7 := fun p => (hk1 p).cell 3
  have hk2 : ∀ p : KeptW (((w.alloc (.cells #[.int .i64 ax, .int .i64 ay, .int .i64 bx, .int .i64 bz] 51)).alloc (.cells #[.int .i64 cx, .int .i64 cy, .int .i64 dx, .int .i64 dy] 51)).alloc (.cells #[.int .i64 px, .int .i64 py] 23)), Blk p.wd (w.heap.size + 1 + 1) 23 #[.int .i64 px, .int .i64 py] := fun p => hb2.kept p
  have q8 := fun p => (hk2 p).cell 0
  have q9 := fun p => (hk2 p).cell 1
  skip
  clear hb0 hk0 hb1 hk1 hb2 hk2
  go_enter Try.func16, Try.ntmps16
  go_upto_region 6 with (first | (go_at_call 49; ((with_reducible refine (Calls.kept_first (c0 _)).mono ?_); rintro e _ ⟨rfl, p, rfl⟩)) | (go_at_call 54; ((with_reducible refine (Calls.kept_of (c1 _)).mono ?_); rintro e _ ⟨rfl, p, rfl⟩)) | (go_at_call 54; ((with_reducible refine (Calls.kept_of (c2 _)).mono ?_); rintro e _ ⟨rfl, p, rfl⟩)) | (go_at_call 40; ((with_reducible refine (Calls.kept_of (c3 _)).mono ?_); rintro e _ ⟨rfl, p, rfl⟩)) | (go_at_call 50; ((with_reducible refine (Calls.kept_of (cA _)).mono ?_); rintro e _ ⟨rfl, p, rfl⟩)) | fail)
  obtain ⟨g1, hg1⟩ : ∃ g, p.wd.heap.size = g := ⟨_, rfl⟩
  have hbb := Blk.new_at p.wd 53 #[.int .i64 0, .int .i64 0, .int .i64 0] hg1
  have hn1 := p.since.alloc (.cells #[.int .i64 0, .int .i64 0, .int .i64 0] 53)
  rw [hg1]
  generalize p.wd.alloc (.cells #[.int .i64 0, .int .i64 0, .int .i64 0] 53) = w1 at hbb hn1 ⊢
  clear hg1
  have HN1 := Lib.hid hn1
  have HB1 := Lib.hid hbb
  clear hn1 hbb q0 q1 q2 q3 q4 q5 q6 q7 q8 q9
  have q0 := fun p : KeptW w1 => (HF.out p.wd (HN1.out.tr p.since)).1.cell 0
  have q1 := fun p : KeptW w1 => (HF.out p.wd (HN1.out.tr p.since)).1.cell 1
  have q2 := fun p : KeptW w1 => (HF.out p.wd (HN1.out.tr p.since)).1.cell 2
  have q3 := fun p : KeptW w1 => (HF.out p.wd (HN1.out.tr p.since)).1.cell 3
  have q4 := fun p : KeptW w1 => (HF.out p.wd (HN1.out.tr p.since)).2.1.cell 0
  have q5 := fun p : KeptW w1 => (HF.out p.wd (HN1.out.tr p.since)).2.1.cell 1
  have q6 := fun p : KeptW w1 => (HF.out p.wd (HN1.out.tr p.since)).2.1.cell 2
  have q7 := fun p : KeptW w1 => (HF.out p.wd (HN1.out.tr p.since)).2.1.cell 3
  have q8 := fun p : KeptW w1 => (HF.out p.wd (HN1.out.tr p.since)).2.2.cell 0
  have q9 := fun p : KeptW w1 => (HF.out p.wd (HN1.out.tr p.since)).2.2.cell 1
  have z0 := q0 ⟨w1, Kp.refl _ _⟩
  have z1 := q1 ⟨w1, Kp.refl _ _⟩
  have z2 := q2 ⟨w1, Kp.refl _ _⟩
  have z3 := q3 ⟨w1, Kp.refl _ _⟩
  have z4 := q4 ⟨w1, Kp.refl _ _⟩
  have z5 := q5 ⟨w1, Kp.refl _ _⟩
  have z6 := q6 ⟨w1, Kp.refl _ _⟩
  have z7 := q7 ⟨w1, Kp.refl _ _⟩
  have z8 := q8 ⟨w1, Kp.refl _ _⟩
  have z9 := q9 ⟨w1, Kp.refl _ _⟩
  go_upto_region 7 with (first | (go_at_call 52; ((with_reducible refine (Calls.kept_first (cS _)).mono ?_); rintro e _ ⟨rfl, p, rfl⟩)) | fail)
  obtain ⟨g2, hg1⟩ : ∃ g, p.wd.heap.size = g := ⟨_, rfl⟩
  have hbb := Blk.new_at p.wd 51 #[.int .i64 0, .int .i64 0, .int .i64 0, .int .i64 0] hg1
  have hn1 := p.since.alloc (.cells #[.int .i64 0, .int .i64 0, .int .i64 0, .int .i64 0] 51)
  rw [hg1]
  generalize p.wd.alloc (.cells #[.int .i64 0, .int .i64 0, .int .i64 0, .int .i64 0] 51) = w2 at hbb hn1 ⊢
  clear hg1
  have HN2 := Lib.hid hn1
  have HB2 := Lib.hid hbb
  have HB1 := Lib.hid (HB1.out.nw hn1)
  clear hn1 hbb q0 z0 q1 z1 q2 z2 q3 z3 q4 z4 q5 z5 q6 z6 q7 z7 q8 z8 q9 z9
  have q0 := fun p : KeptW w2 => (HF.out p.wd ((HN1.out.tr HN2.out).tr p.since)).1.cell 0
  have q1 := fun p : KeptW w2 => (HF.out p.wd ((HN1.out.tr HN2.out).tr p.since)).1.cell 1
  have q2 := fun p : KeptW w2 => (HF.out p.wd ((HN1.out.tr HN2.out).tr p.since)).1.cell 2
  have q3 := fun p : KeptW w2 => (HF.out p.wd ((HN1.out.tr HN2.out).tr p.since)).1.cell 3
  have q4 := fun p : KeptW w2 => (HF.out p.wd ((HN1.out.tr HN2.out).tr p.since)).2.1.cell 0
  have q5 := fun p : KeptW w2 => (HF.out p.wd ((HN1.out.tr HN2.out).tr p.since)).2.1.cell 1
  have q6 := fun p : KeptW w2 => (HF.out p.wd ((HN1.out.tr HN2.out).tr p.since)).2.1.cell 2
  have q7 := fun p : KeptW w2 => (HF.out p.wd ((HN1.out.tr HN2.out).tr p.since)).2.1.cell 3
  have q8 := fun p : KeptW w2 => (HF.out p.wd ((HN1.out.tr HN2.out).tr p.since)).2.2.cell 0
  have q9 := fun p : KeptW w2 => (HF.out p.wd ((HN1.out.tr HN2.out).tr p.since)).2.2.cell 1
  have q10 := fun p : KeptW w2 => (HB1.out.kept p).cell 0
  have q11 := fun p : KeptW w2 => (HB1.out.kept p).cell 1
  have q12 := fun p : KeptW w2 => (HB1.out.kept p).cell 2
  have q13 := fun p : KeptW w2 => (HB2.out.kept p).cell 0
  have q14 := fun p : KeptW w2 => (HB2.out.kept p).cell 1
  have q15 := fun p : KeptW w2 => (HB2.out.kept p).cell 2
  have q16 := fun p : KeptW w2 => (HB2.out.kept p).cell 3
  have z0 := q0 ⟨w2, Kp.refl _ _⟩
  have z1 := q1 ⟨w2, Kp.refl _ _⟩
  have z2 := q2 ⟨w2, Kp.refl _ _⟩
  have z3 := q3 ⟨w2, Kp.refl _ _⟩
  have z4 := q4 ⟨w2, Kp.refl _ _⟩
  have z5 := q5 ⟨w2, Kp.refl _ _⟩
  have z6 := q6 ⟨w2, Kp.refl _ _⟩
  have z7 := q7 ⟨w2, Kp.refl _ _⟩
  have z8 := q8 ⟨w2, Kp.refl _ _⟩
  have z9 := q9 ⟨w2, Kp.refl _ _⟩
  have z10 := q10 ⟨w2, Kp.refl _ _⟩
  have z11 := q11 ⟨w2, Kp.refl _ _⟩
  have z12 := q12 ⟨w2, Kp.refl _ _⟩
  have z13 := q13 ⟨w2, Kp.refl _ _⟩
  have z14 := q14 ⟨w2, Kp.refl _ _⟩
  have z15 := q15 ⟨w2, Kp.refl _ _⟩
  have z16 := q16 ⟨w2, Kp.refl _ _⟩
  go_upto_region 12 with (first | (go_at_call 56; ((with_reducible refine (Calls.kept_first (cK _)).mono ?_); rintro e _ ⟨rfl, p, rfl⟩)) | fail)
  clear z0 z1 z2 z3 z4 z5 z6 z7 z8 z9 z10 z11 z12 z13 z14 z15 z16 c0 c1 c2 c3 cA cS cK
  cases b1
  · skip
    refine wp_region_kept (p.since) (by assumption) (by kernel_rfl) ?_
    repeat (with_reducible refine wpQuiet_step (fun K hK => ?_); go_simp; first | ((with_reducible refine hK _ ?_); clear hK K) | (with_reducible apply Exists.intro; (with_reducible refine ⟨fun _ => ?_, hK _ ?_⟩); ((first | (go_at_call 60; with_reducible exact Calls.kept_of (p1 _)) | (go_at_call 60; with_reducible exact Calls.kept_of (p2 _)) | fail)); clear hK K) | (simp only [undef, reduceCtorEq, if_false]; (with_reducible refine hK _ ?_); clear hK K))
    with_reducible refine wpQuiet_nil ?_
    rintro _ ⟨p, rfl⟩
    go_wp2_with fail
    go_ret
    exact ⟨by simp, (((((nw_alloc _ _).alloc _).alloc _).tr HN1.out).tr HN2.out).tr p.since⟩
  · obtain rfl : b2 = false := hb
    refine wp_region_kept (p.since) (by assumption) (by kernel_rfl) ?_
    repeat (with_reducible refine wpQuiet_step (fun K hK => ?_); go_simp; first | ((with_reducible refine hK _ ?_); clear hK K) | (with_reducible apply Exists.intro; (with_reducible refine ⟨fun _ => ?_, hK _ ?_⟩); ((first | (go_at_call 60; with_reducible exact Calls.kept_of (p1 _)) | (go_at_call 60; with_reducible exact Calls.kept_of (p2 _)) | fail)); clear hK K) | (simp only [undef, reduceCtorEq, if_false]; (with_reducible refine hK _ ?_); clear hK K))
    with_reducible refine wpQuiet_nil ?_
    rintro _ ⟨p, rfl⟩
    go_wp2_with fail
    go_ret
    exact ⟨by simp, (((((nw_alloc _ _).alloc _).alloc _).tr HN1.out).tr HN2.out).tr p.since⟩

set_option maxRecDepth 100000 in
set_option maxHeartbeats 6400000 in
theorem common_touch (ax ay bx bz cx cy dx dy px py : Int) (r1 r2 r3 : Int) (w : World)
    (c1 : ∀ w1, Calls Try.prog 54 #[sV ax ay bx bz] w1 fun e w' => e = .returned (.bool true) ∧ Nw w1 w') (c2 : ∀ w1, Calls Try.prog 54 #[sV cx cy dx dy] w1 fun e w' => e = .returned (.bool true) ∧ Nw w1 w')
    (c3 : ∀ w1, Calls Try.prog 40 #[vV px py, .int .i64 4000] w1 fun e w' => e = .returned (.bool true) ∧ Nw w1 w')
    (cA : ∀ w1, Calls Try.prog 50 #[sV ax ay bx bz, sV cx cy dx dy] w1 fun e w' => e = .returned (.tuple #[pV r1 r2 r3, .bool true]) ∧ Nw w1 w')
    (cS : ∀ w1, Calls Try.prog 52 #[sV ax ay bx bz, sV cx cy dx dy] w1 fun e w' => e = .returned (.tuple #[sV 0 0 0 0, .bool false]) ∧ Nw w1 w')
    (cK : ∀ w1, Calls Try.prog 56 #[sV ax ay bx bz, sV cx cy dx dy] w1 fun e w' => e = .returned (.int .i64 1) ∧ Nw w1 w')
    (b1 b2 : Bool) (p1 : ∀ w1, Calls Try.prog 60 #[sV ax ay bx bz, vV px py] w1 fun e w' => e = .returned (.bool b1) ∧ Nw w1 w') (p2 : ∀ w1, Calls Try.prog 60 #[sV cx cy dx dy, vV px py] w1 fun e w' => e = .returned (.bool b2) ∧ Nw w1 w')
    (cV : ∀ w1, Calls Try.prog 66 #[pV r1 r2 r3] w1 fun e w' => e = .returned (.bool true) ∧ Nw w1 w') (g : Bool) (hg : (r1 == px && r2 == py && r3 == 1) = g) (hb : (b1 && b2) = g) : Calls Try.prog 16 #[sV ax ay bx bz, sV cx cy dx dy, vV px py] w fun e w' => e = .returned (.bool true) ∧ Nw w w' := by
  have hmix := mixed7
  have c0 := fun w1 => awake7_any w1
  have pp := fun w1 => pointOf_any px py w1
  have hq := fun w1 => eql_pt r1 r2 r3 px py 1 w1
  rw [hg] at hq
  clear hg
  have hF : ∀ w', Nw (((w.alloc (.cells #[.int .i64 ax, .int .i64 ay, .int .i64 bx, .int .i64 bz] 51)).alloc (.cells #[.int .i64 cx, .int .i64 cy, .int .i64 dx, .int .i64 dy] 51)).alloc (.cells #[.int .i64 px, .int .i64 py] 23)) w' → Blk w' w.heap.size 51 #[.int .i64 ax, .int .i64 ay, .int .i64 bx, .int .i64 bz] ∧ Blk w' (w.heap.size + 1) 51 #[.int .i64 cx, .int .i64 cy, .int .i64 dx, .int .i64 dy] ∧ Blk w' (w.heap.size + 1 + 1) 23 #[.int .i64 px, .int .i64 py] := fun w' h => ⟨(((Blk.new_at w 51 #[.int .i64 ax, .int .i64 ay, .int .i64 bx, .int .i64 bz] (n := w.heap.size) rfl).alloc _).alloc _).kp h id, ((Blk.new_at _ 51 #[.int .i64 cx, .int .i64 cy, .int .i64 dx, .int .i64 dy] (n := w.heap.size + 1) (by simp)).alloc _).kp h id, (Blk.new_at _ 23 #[.int .i64 px, .int .i64 py] (n := w.heap.size + 1 + 1) (by simp)).kp h id⟩
  have HF := Lib.hid hF
  clear hF
  have hb0 := Blk.new_at w 51 #[.int .i64 ax, .int .i64 ay, .int .i64 bx, .int .i64 bz] (n := w.heap.size) (by simp)
  have hb1 := Blk.new_at (w.alloc (.cells #[.int .i64 ax, .int .i64 ay, .int .i64 bx, .int .i64 bz] 51)) 51 #[.int .i64 cx, .int .i64 cy, .int .i64 dx, .int .i64 dy] (n := w.heap.size + 1) (by simp)
  have hb2 := Blk.new_at ((w.alloc (.cells #[.int .i64 ax, .int .i64 ay, .int .i64 bx, .int .i64 bz] 51)).alloc (.cells #[.int .i64 cx, .int .i64 cy, .int .i64 dx, .int .i64 dy] 51)) 23 #[.int .i64 px, .int .i64 py] (n := w.heap.size + 1 + 1) (by simp)
  have hk0 : ∀ p : KeptW (((w.alloc (.cells #[.int .i64 ax, .int .i64 ay, .int .i64 bx, .int .i64 bz] 51)).alloc (.cells #[.int .i64 cx, .int .i64 cy, .int .i64 dx, .int .i64 dy] 51)).alloc (.cells #[.int .i64 px, .int .i64 py] 23)), Blk p.wd (w.heap.size) 51 #[.int .i64 ax, .int .i64 ay, .int .i64 bx, .int .i64 bz] := fun p => ((hb0.alloc _).alloc _).kept p
  have q0 := fun p => (hk0 p).cell 0
  have q1 := fun p => (hk0 p).cell 1
  have q2 := fun p => (hk0 p).cell 2
  have q3 := fun p => (hk0 p).cell 3
  have hk1 : ∀ p : KeptW (((w.alloc (.cells #[.int .i64 ax, .int .i64 ay, .int .i64 bx, .int .i64 bz] 51)).alloc (.cells #[.int .i64 cx, .int .i64 cy, .int .i64 dx, .int .i64 dy] 51)).alloc (.cells #[.int .i64 px, .int .i64 py] 23)), Blk p.wd (w.heap.size + 1) 51 #[.int .i64 cx, .int .i64 cy, .int .i64 dx, .int .i64 dy] := fun p => (hb1.alloc _).kept p
  have q4 := fun p => (hk1 p).cell 0
  have q5 := fun p => (hk1 p).cell 1
  have q6 := fun p => (hk1 p).cell 2
  have q7 := fun p => (hk1 p).cell 3
  have hk2 : ∀ p : KeptW (((w.alloc (.cells #[.int .i64 ax, .int .i64 ay, .int .i64 bx, .int .i64 bz] 51)).alloc (.cells #[.int .i64 cx, .int .i64 cy, .int .i64 dx, .int .i64 dy] 51)).alloc (.cells #[.int .i64 px, .int .i64 py] 23)), Blk p.wd (w.heap.size + 1 + 1) 23 #[.int .i64 px, .int .i64 py] := fun p => hb2.kept p
  have q8 := fun p => (hk2 p).cell 0
  have q9 := fun p => (hk2 p).cell 1
  skip
  clear hb0 hk0 hb1 hk1 hb2 hk2
  go_enter Try.func16, Try.ntmps16
  go_upto_region 6 with (first | (go_at_call 49; ((with_reducible refine (Calls.kept_first (c0 _)).mono ?_); rintro e _ ⟨rfl, p, rfl⟩)) | (go_at_call 54; ((with_reducible refine (Calls.kept_of (c1 _)).mono ?_); rintro e _ ⟨rfl, p, rfl⟩)) | (go_at_call 54; ((with_reducible refine (Calls.kept_of (c2 _)).mono ?_); rintro e _ ⟨rfl, p, rfl⟩)) | (go_at_call 40; ((with_reducible refine (Calls.kept_of (c3 _)).mono ?_); rintro e _ ⟨rfl, p, rfl⟩)) | (go_at_call 50; ((with_reducible refine (Calls.kept_of (cA _)).mono ?_); rintro e _ ⟨rfl, p, rfl⟩)) | fail)
  obtain ⟨g1, hg1⟩ : ∃ g, p.wd.heap.size = g := ⟨_, rfl⟩
  have hbb := Blk.new_at p.wd 53 #[.int .i64 r1, .int .i64 r2, .int .i64 r3] hg1
  have hn1 := p.since.alloc (.cells #[.int .i64 r1, .int .i64 r2, .int .i64 r3] 53)
  rw [hg1]
  generalize p.wd.alloc (.cells #[.int .i64 r1, .int .i64 r2, .int .i64 r3] 53) = w1 at hbb hn1 ⊢
  clear hg1
  have HN1 := Lib.hid hn1
  have HB1 := Lib.hid hbb
  clear hn1 hbb q0 q1 q2 q3 q4 q5 q6 q7 q8 q9
  have q0 := fun p : KeptW w1 => (HF.out p.wd (HN1.out.tr p.since)).1.cell 0
  have q1 := fun p : KeptW w1 => (HF.out p.wd (HN1.out.tr p.since)).1.cell 1
  have q2 := fun p : KeptW w1 => (HF.out p.wd (HN1.out.tr p.since)).1.cell 2
  have q3 := fun p : KeptW w1 => (HF.out p.wd (HN1.out.tr p.since)).1.cell 3
  have q4 := fun p : KeptW w1 => (HF.out p.wd (HN1.out.tr p.since)).2.1.cell 0
  have q5 := fun p : KeptW w1 => (HF.out p.wd (HN1.out.tr p.since)).2.1.cell 1
  have q6 := fun p : KeptW w1 => (HF.out p.wd (HN1.out.tr p.since)).2.1.cell 2
  have q7 := fun p : KeptW w1 => (HF.out p.wd (HN1.out.tr p.since)).2.1.cell 3
  have q8 := fun p : KeptW w1 => (HF.out p.wd (HN1.out.tr p.since)).2.2.cell 0
  have q9 := fun p : KeptW w1 => (HF.out p.wd (HN1.out.tr p.since)).2.2.cell 1
  have z0 := q0 ⟨w1, Kp.refl _ _⟩
  have z1 := q1 ⟨w1, Kp.refl _ _⟩
  have z2 := q2 ⟨w1, Kp.refl _ _⟩
  have z3 := q3 ⟨w1, Kp.refl _ _⟩
  have z4 := q4 ⟨w1, Kp.refl _ _⟩
  have z5 := q5 ⟨w1, Kp.refl _ _⟩
  have z6 := q6 ⟨w1, Kp.refl _ _⟩
  have z7 := q7 ⟨w1, Kp.refl _ _⟩
  have z8 := q8 ⟨w1, Kp.refl _ _⟩
  have z9 := q9 ⟨w1, Kp.refl _ _⟩
  go_upto_region 7 with (first | (go_at_call 52; ((with_reducible refine (Calls.kept_first (cS _)).mono ?_); rintro e _ ⟨rfl, p, rfl⟩)) | fail)
  obtain ⟨g2, hg1⟩ : ∃ g, p.wd.heap.size = g := ⟨_, rfl⟩
  have hbb := Blk.new_at p.wd 51 #[.int .i64 0, .int .i64 0, .int .i64 0, .int .i64 0] hg1
  have hn1 := p.since.alloc (.cells #[.int .i64 0, .int .i64 0, .int .i64 0, .int .i64 0] 51)
  rw [hg1]
  generalize p.wd.alloc (.cells #[.int .i64 0, .int .i64 0, .int .i64 0, .int .i64 0] 51) = w2 at hbb hn1 ⊢
  clear hg1
  have HN2 := Lib.hid hn1
  have HB2 := Lib.hid hbb
  have HB1 := Lib.hid (HB1.out.nw hn1)
  clear hn1 hbb q0 z0 q1 z1 q2 z2 q3 z3 q4 z4 q5 z5 q6 z6 q7 z7 q8 z8 q9 z9
  have q0 := fun p : KeptW w2 => (HF.out p.wd ((HN1.out.tr HN2.out).tr p.since)).1.cell 0
  have q1 := fun p : KeptW w2 => (HF.out p.wd ((HN1.out.tr HN2.out).tr p.since)).1.cell 1
  have q2 := fun p : KeptW w2 => (HF.out p.wd ((HN1.out.tr HN2.out).tr p.since)).1.cell 2
  have q3 := fun p : KeptW w2 => (HF.out p.wd ((HN1.out.tr HN2.out).tr p.since)).1.cell 3
  have q4 := fun p : KeptW w2 => (HF.out p.wd ((HN1.out.tr HN2.out).tr p.since)).2.1.cell 0
  have q5 := fun p : KeptW w2 => (HF.out p.wd ((HN1.out.tr HN2.out).tr p.since)).2.1.cell 1
  have q6 := fun p : KeptW w2 => (HF.out p.wd ((HN1.out.tr HN2.out).tr p.since)).2.1.cell 2
  have q7 := fun p : KeptW w2 => (HF.out p.wd ((HN1.out.tr HN2.out).tr p.since)).2.1.cell 3
  have q8 := fun p : KeptW w2 => (HF.out p.wd ((HN1.out.tr HN2.out).tr p.since)).2.2.cell 0
  have q9 := fun p : KeptW w2 => (HF.out p.wd ((HN1.out.tr HN2.out).tr p.since)).2.2.cell 1
  have q10 := fun p : KeptW w2 => (HB1.out.kept p).cell 0
  have q11 := fun p : KeptW w2 => (HB1.out.kept p).cell 1
  have q12 := fun p : KeptW w2 => (HB1.out.kept p).cell 2
  have q13 := fun p : KeptW w2 => (HB2.out.kept p).cell 0
  have q14 := fun p : KeptW w2 => (HB2.out.kept p).cell 1
  have q15 := fun p : KeptW w2 => (HB2.out.kept p).cell 2
  have q16 := fun p : KeptW w2 => (HB2.out.kept p).cell 3
  have z0 := q0 ⟨w2, Kp.refl _ _⟩
  have z1 := q1 ⟨w2, Kp.refl _ _⟩
  have z2 := q2 ⟨w2, Kp.refl _ _⟩
  have z3 := q3 ⟨w2, Kp.refl _ _⟩
  have z4 := q4 ⟨w2, Kp.refl _ _⟩
  have z5 := q5 ⟨w2, Kp.refl _ _⟩
  have z6 := q6 ⟨w2, Kp.refl _ _⟩
  have z7 := q7 ⟨w2, Kp.refl _ _⟩
  have z8 := q8 ⟨w2, Kp.refl _ _⟩
  have z9 := q9 ⟨w2, Kp.refl _ _⟩
  have z10 := q10 ⟨w2, Kp.refl _ _⟩
  have z11 := q11 ⟨w2, Kp.refl _ _⟩
  have z12 := q12 ⟨w2, Kp.refl _ _⟩
  have z13 := q13 ⟨w2, Kp.refl _ _⟩
  have z14 := q14 ⟨w2, Kp.refl _ _⟩
  have z15 := q15 ⟨w2, Kp.refl _ _⟩
  have z16 := q16 ⟨w2, Kp.refl _ _⟩
  go_upto_region 12 with (first | (go_at_call 56; ((with_reducible refine (Calls.kept_first (cK _)).mono ?_); rintro e _ ⟨rfl, p, rfl⟩)) | (go_at_call 66; ((with_reducible refine (Calls.kept_of (cV _)).mono ?_); rintro e _ ⟨rfl, p, rfl⟩)) | fail)
  clear z0 z1 z2 z3 z4 z5 z6 z7 z8 z9 z10 z11 z12 z13 z14 z15 z16 c0 c1 c2 c3 cA cS cK
  cases b1
  · obtain rfl : false = g := hb
    refine wp_region_kept (p.since) (by assumption) (by kernel_rfl) ?_
    repeat (with_reducible refine wpQuiet_step (fun K hK => ?_); go_simp; first | ((with_reducible refine hK _ ?_); clear hK K) | (with_reducible apply Exists.intro; (with_reducible refine ⟨fun _ => ?_, hK _ ?_⟩); ((first | (go_at_call 60; with_reducible exact Calls.kept_of (p1 _)) | (go_at_call 60; with_reducible exact Calls.kept_of (p2 _)) | (go_at_call 64; with_reducible exact Calls.kept_of (pp _)) | fail)); clear hK K) | (simp only [undef, reduceCtorEq, if_false]; (with_reducible refine hK _ ?_); clear hK K))
    with_reducible refine wpQuiet_nil ?_
    rintro _ ⟨p, rfl⟩
    go_wp2_with fail
    go_ret
    exact ⟨by simp, (((((nw_alloc _ _).alloc _).alloc _).tr HN1.out).tr HN2.out).tr p.since⟩
  · obtain rfl : b2 = g := hb
    cases b2
    · skip
      refine wp_region_kept (p.since) (by assumption) (by kernel_rfl) ?_
      repeat (with_reducible refine wpQuiet_step (fun K hK => ?_); go_simp; first | ((with_reducible refine hK _ ?_); clear hK K) | (with_reducible apply Exists.intro; (with_reducible refine ⟨fun _ => ?_, hK _ ?_⟩); ((first | (go_at_call 60; with_reducible exact Calls.kept_of (p1 _)) | (go_at_call 60; with_reducible exact Calls.kept_of (p2 _)) | (go_at_call 64; with_reducible exact Calls.kept_of (pp _)) | fail)); clear hK K) | (simp only [undef, reduceCtorEq, if_false]; (with_reducible refine hK _ ?_); clear hK K))
      with_reducible refine wpQuiet_nil ?_
      rintro _ ⟨p, rfl⟩
      go_wp2_with fail
      go_ret
      exact ⟨by simp, (((((nw_alloc _ _).alloc _).alloc _).tr HN1.out).tr HN2.out).tr p.since⟩
    · skip
      refine wp_region_kept (p.since) (by assumption) (by kernel_rfl) ?_
      repeat (with_reducible refine wpQuiet_step (fun K hK => ?_); go_simp; first | ((with_reducible refine hK _ ?_); clear hK K) | (with_reducible apply Exists.intro; (with_reducible refine ⟨fun _ => ?_, hK _ ?_⟩); ((first | (go_at_call 60; with_reducible exact Calls.kept_of (p1 _)) | (go_at_call 60; with_reducible exact Calls.kept_of (p2 _)) | (go_at_call 64; with_reducible exact Calls.kept_of (pp _)) | fail)); clear hK K) | (simp only [undef, reduceCtorEq, if_false]; (with_reducible refine hK _ ?_); clear hK K))
      with_reducible refine wpQuiet_nil ?_
      rintro _ ⟨p, rfl⟩
      go_wp2_with fail
      go_ret
      exact ⟨by simp, (((((nw_alloc _ _).alloc _).alloc _).tr HN1.out).tr HN2.out).tr p.since⟩

set_option maxRecDepth 100000 in
set_option maxHeartbeats 6400000 in
theorem common_cross (ax ay bx bz cx cy dx dy px py : Int) (r1 r2 r3 : Int) (w : World)
    (c1 : ∀ w1, Calls Try.prog 54 #[sV ax ay bx bz] w1 fun e w' => e = .returned (.bool true) ∧ Nw w1 w') (c2 : ∀ w1, Calls Try.prog 54 #[sV cx cy dx dy] w1 fun e w' => e = .returned (.bool true) ∧ Nw w1 w')
    (c3 : ∀ w1, Calls Try.prog 40 #[vV px py, .int .i64 4000] w1 fun e w' => e = .returned (.bool true) ∧ Nw w1 w')
    (cA : ∀ w1, Calls Try.prog 50 #[sV ax ay bx bz, sV cx cy dx dy] w1 fun e w' => e = .returned (.tuple #[pV r1 r2 r3, .bool true]) ∧ Nw w1 w')
    (cS : ∀ w1, Calls Try.prog 52 #[sV ax ay bx bz, sV cx cy dx dy] w1 fun e w' => e = .returned (.tuple #[sV 0 0 0 0, .bool false]) ∧ Nw w1 w')
    (cK : ∀ w1, Calls Try.prog 56 #[sV ax ay bx bz, sV cx cy dx dy] w1 fun e w' => e = .returned (.int .i64 2) ∧ Nw w1 w')
    (b1 b2 : Bool) (p1 : ∀ w1, Calls Try.prog 60 #[sV ax ay bx bz, vV px py] w1 fun e w' => e = .returned (.bool b1) ∧ Nw w1 w') (p2 : ∀ w1, Calls Try.prog 60 #[sV cx cy dx dy, vV px py] w1 fun e w' => e = .returned (.bool b2) ∧ Nw w1 w')
    (cV : ∀ w1, Calls Try.prog 66 #[pV r1 r2 r3] w1 fun e w' => e = .returned (.bool true) ∧ Nw w1 w') (g : Bool) (hg : (r1 == px && r2 == py && r3 == 1) = g) (hb : (b1 && b2) = g) : Calls Try.prog 16 #[sV ax ay bx bz, sV cx cy dx dy, vV px py] w fun e w' => e = .returned (.bool true) ∧ Nw w w' := by
  have hmix := mixed7
  have c0 := fun w1 => awake7_any w1
  have pp := fun w1 => pointOf_any px py w1
  have hq := fun w1 => eql_pt r1 r2 r3 px py 1 w1
  rw [hg] at hq
  clear hg
  have hF : ∀ w', Nw (((w.alloc (.cells #[.int .i64 ax, .int .i64 ay, .int .i64 bx, .int .i64 bz] 51)).alloc (.cells #[.int .i64 cx, .int .i64 cy, .int .i64 dx, .int .i64 dy] 51)).alloc (.cells #[.int .i64 px, .int .i64 py] 23)) w' → Blk w' w.heap.size 51 #[.int .i64 ax, .int .i64 ay, .int .i64 bx, .int .i64 bz] ∧ Blk w' (w.heap.size + 1) 51 #[.int .i64 cx, .int .i64 cy, .int .i64 dx, .int .i64 dy] ∧ Blk w' (w.heap.size + 1 + 1) 23 #[.int .i64 px, .int .i64 py] := fun w' h => ⟨(((Blk.new_at w 51 #[.int .i64 ax, .int .i64 ay, .int .i64 bx, .int .i64 bz] (n := w.heap.size) rfl).alloc _).alloc _).kp h id, ((Blk.new_at _ 51 #[.int .i64 cx, .int .i64 cy, .int .i64 dx, .int .i64 dy] (n := w.heap.size + 1) (by simp)).alloc _).kp h id, (Blk.new_at _ 23 #[.int .i64 px, .int .i64 py] (n := w.heap.size + 1 + 1) (by simp)).kp h id⟩
  have HF := Lib.hid hF
  clear hF
  have hb0 := Blk.new_at w 51 #[.int .i64 ax, .int .i64 ay, .int .i64 bx, .int .i64 bz] (n := w.heap.size) (by simp)
  have hb1 := Blk.new_at (w.alloc (.cells #[.int .i64 ax, .int .i64 ay, .int .i64 bx, .int .i64 bz] 51)) 51 #[.int .i64 cx, .int .i64 cy, .int .i64 dx, .int .i64 dy] (n := w.heap.size + 1) (by simp)
  have hb2 := Blk.new_at ((w.alloc (.cells #[.int .i64 ax, .int .i64 ay, .int .i64 bx, .int .i64 bz] 51)).alloc (.cells #[.int .i64 cx, .int .i64 cy, .int .i64 dx, .int .i64 dy] 51)) 23 #[.int .i64 px, .int .i64 py] (n := w.heap.size + 1 + 1) (by simp)
  have hk0 : ∀ p : KeptW (((w.alloc (.cells #[.int .i64 ax, .int .i64 ay, .int .i64 bx, .int .i64 bz] 51)).alloc (.cells #[.int .i64 cx, .int .i64 cy, .int .i64 dx, .int .i64 dy] 51)).alloc (.cells #[.int .i64 px, .int .i64 py] 23)), Blk p.wd (w.heap.size) 51 #[.int .i64 ax, .int .i64 ay, .int .i64 bx, .int .i64 bz] := fun p => ((hb0.alloc _).alloc _).kept p
  have q0 := fun p => (hk0 p).cell 0
  have q1 := fun p => (hk0 p).cell 1
  have q2 := fun p => (hk0 p).cell 2
  have q3 := fun p => (hk0 p).cell 3
  have hk1 : ∀ p : KeptW (((w.alloc (.cells #[.int .i64 ax, .int .i64 ay, .int .i64 bx, .int .i64 bz] 51)).alloc (.cells #[.int .i64 cx, .int .i64 cy, .int .i64 dx, .int .i64 dy] 51)).alloc (.cells #[.int .i64 px, .int .i64 py] 23)), Blk p.wd (w.heap.size + 1) 51 #[.int .i64 cx, .int .i64 cy, .int .i64 dx, .int .i64 dy] := fun p => (hb1.alloc _).kept p
  have q4 := fun p => (hk1 p).cell 0
  have q5 := fun p => (hk1 p).cell 1
  have q6 := fun p => (hk1 p).cell 2
  have q7 := fun p => (hk1 p).cell 3
  have hk2 : ∀ p : KeptW (((w.alloc (.cells #[.int .i64 ax, .int .i64 ay, .int .i64 bx, .int .i64 bz] 51)).alloc (.cells #[.int .i64 cx, .int .i64 cy, .int .i64 dx, .int .i64 dy] 51)).alloc (.cells #[.int .i64 px, .int .i64 py] 23)), Blk p.wd (w.heap.size + 1 + 1) 23 #[.int .i64 px, .int .i64 py] := fun p => hb2.kept p
  have q8 := fun p => (hk2 p).cell 0
  have q9 := fun p => (hk2 p).cell 1
  skip
  clear hb0 hk0 hb1 hk1 hb2 hk2
  go_enter Try.func16, Try.ntmps16
  go_upto_region 6 with (first | (go_at_call 49; ((with_reducible refine (Calls.kept_first (c0 _)).mono ?_); rintro e _ ⟨rfl, p, rfl⟩)) | (go_at_call 54; ((with_reducible refine (Calls.kept_of (c1 _)).mono ?_); rintro e _ ⟨rfl, p, rfl⟩)) | (go_at_call 54; ((with_reducible refine (Calls.kept_of (c2 _)).mono ?_); rintro e _ ⟨rfl, p, rfl⟩)) | (go_at_call 40; ((with_reducible refine (Calls.kept_of (c3 _)).mono ?_); rintro e _ ⟨rfl, p, rfl⟩)) | (go_at_call 50; ((with_reducible refine (Calls.kept_of (cA _)).mono ?_); rintro e _ ⟨rfl, p, rfl⟩)) | fail)
  obtain ⟨g1, hg1⟩ : ∃ g, p.wd.heap.size = g := ⟨_, rfl⟩
  have hbb := Blk.new_at p.wd 53 #[.int .i64 r1, .int .i64 r2, .int .i64 r3] hg1
  have hn1 := p.since.alloc (.cells #[.int .i64 r1, .int .i64 r2, .int .i64 r3] 53)
  rw [hg1]
  generalize p.wd.alloc (.cells #[.int .i64 r1, .int .i64 r2, .int .i64 r3] 53) = w1 at hbb hn1 ⊢
  clear hg1
  have HN1 := Lib.hid hn1
  have HB1 := Lib.hid hbb
  clear hn1 hbb q0 q1 q2 q3 q4 q5 q6 q7 q8 q9
  have q0 := fun p : KeptW w1 => (HF.out p.wd (HN1.out.tr p.since)).1.cell 0
  have q1 := fun p : KeptW w1 => (HF.out p.wd (HN1.out.tr p.since)).1.cell 1
  have q2 := fun p : KeptW w1 => (HF.out p.wd (HN1.out.tr p.since)).1.cell 2
  have q3 := fun p : KeptW w1 => (HF.out p.wd (HN1.out.tr p.since)).1.cell 3
  have q4 := fun p : KeptW w1 => (HF.out p.wd (HN1.out.tr p.since)).2.1.cell 0
  have q5 := fun p : KeptW w1 => (HF.out p.wd (HN1.out.tr p.since)).2.1.cell 1
  have q6 := fun p : KeptW w1 => (HF.out p.wd (HN1.out.tr p.since)).2.1.cell 2
  have q7 := fun p : KeptW w1 => (HF.out p.wd (HN1.out.tr p.since)).2.1.cell 3
  have q8 := fun p : KeptW w1 => (HF.out p.wd (HN1.out.tr p.since)).2.2.cell 0
  have q9 := fun p : KeptW w1 => (HF.out p.wd (HN1.out.tr p.since)).2.2.cell 1
  have z0 := q0 ⟨w1, Kp.refl _ _⟩
  have z1 := q1 ⟨w1, Kp.refl _ _⟩
  have z2 := q2 ⟨w1, Kp.refl _ _⟩
  have z3 := q3 ⟨w1, Kp.refl _ _⟩
  have z4 := q4 ⟨w1, Kp.refl _ _⟩
  have z5 := q5 ⟨w1, Kp.refl _ _⟩
  have z6 := q6 ⟨w1, Kp.refl _ _⟩
  have z7 := q7 ⟨w1, Kp.refl _ _⟩
  have z8 := q8 ⟨w1, Kp.refl _ _⟩
  have z9 := q9 ⟨w1, Kp.refl _ _⟩
  go_upto_region 7 with (first | (go_at_call 52; ((with_reducible refine (Calls.kept_first (cS _)).mono ?_); rintro e _ ⟨rfl, p, rfl⟩)) | fail)
  obtain ⟨g2, hg1⟩ : ∃ g, p.wd.heap.size = g := ⟨_, rfl⟩
  have hbb := Blk.new_at p.wd 51 #[.int .i64 0, .int .i64 0, .int .i64 0, .int .i64 0] hg1
  have hn1 := p.since.alloc (.cells #[.int .i64 0, .int .i64 0, .int .i64 0, .int .i64 0] 51)
  rw [hg1]
  generalize p.wd.alloc (.cells #[.int .i64 0, .int .i64 0, .int .i64 0, .int .i64 0] 51) = w2 at hbb hn1 ⊢
  clear hg1
  have HN2 := Lib.hid hn1
  have HB2 := Lib.hid hbb
  have HB1 := Lib.hid (HB1.out.nw hn1)
  clear hn1 hbb q0 z0 q1 z1 q2 z2 q3 z3 q4 z4 q5 z5 q6 z6 q7 z7 q8 z8 q9 z9
  have q0 := fun p : KeptW w2 => (HF.out p.wd ((HN1.out.tr HN2.out).tr p.since)).1.cell 0
  have q1 := fun p : KeptW w2 => (HF.out p.wd ((HN1.out.tr HN2.out).tr p.since)).1.cell 1
  have q2 := fun p : KeptW w2 => (HF.out p.wd ((HN1.out.tr HN2.out).tr p.since)).1.cell 2
  have q3 := fun p : KeptW w2 => (HF.out p.wd ((HN1.out.tr HN2.out).tr p.since)).1.cell 3
  have q4 := fun p : KeptW w2 => (HF.out p.wd ((HN1.out.tr HN2.out).tr p.since)).2.1.cell 0
  have q5 := fun p : KeptW w2 => (HF.out p.wd ((HN1.out.tr HN2.out).tr p.since)).2.1.cell 1
  have q6 := fun p : KeptW w2 => (HF.out p.wd ((HN1.out.tr HN2.out).tr p.since)).2.1.cell 2
  have q7 := fun p : KeptW w2 => (HF.out p.wd ((HN1.out.tr HN2.out).tr p.since)).2.1.cell 3
  have q8 := fun p : KeptW w2 => (HF.out p.wd ((HN1.out.tr HN2.out).tr p.since)).2.2.cell 0
  have q9 := fun p : KeptW w2 => (HF.out p.wd ((HN1.out.tr HN2.out).tr p.since)).2.2.cell 1
  have q10 := fun p : KeptW w2 => (HB1.out.kept p).cell 0
  have q11 := fun p : KeptW w2 => (HB1.out.kept p).cell 1
  have q12 := fun p : KeptW w2 => (HB1.out.kept p).cell 2
  have q13 := fun p : KeptW w2 => (HB2.out.kept p).cell 0
  have q14 := fun p : KeptW w2 => (HB2.out.kept p).cell 1
  have q15 := fun p : KeptW w2 => (HB2.out.kept p).cell 2
  have q16 := fun p : KeptW w2 => (HB2.out.kept p).cell 3
  have z0 := q0 ⟨w2, Kp.refl _ _⟩
  have z1 := q1 ⟨w2, Kp.refl _ _⟩
  have z2 := q2 ⟨w2, Kp.refl _ _⟩
  have z3 := q3 ⟨w2, Kp.refl _ _⟩
  have z4 := q4 ⟨w2, Kp.refl _ _⟩
  have z5 := q5 ⟨w2, Kp.refl _ _⟩
  have z6 := q6 ⟨w2, Kp.refl _ _⟩
  have z7 := q7 ⟨w2, Kp.refl _ _⟩
  have z8 := q8 ⟨w2, Kp.refl _ _⟩
  have z9 := q9 ⟨w2, Kp.refl _ _⟩
  have z10 := q10 ⟨w2, Kp.refl _ _⟩
  have z11 := q11 ⟨w2, Kp.refl _ _⟩
  have z12 := q12 ⟨w2, Kp.refl _ _⟩
  have z13 := q13 ⟨w2, Kp.refl _ _⟩
  have z14 := q14 ⟨w2, Kp.refl _ _⟩
  have z15 := q15 ⟨w2, Kp.refl _ _⟩
  have z16 := q16 ⟨w2, Kp.refl _ _⟩
  go_upto_region 12 with (first | (go_at_call 56; ((with_reducible refine (Calls.kept_first (cK _)).mono ?_); rintro e _ ⟨rfl, p, rfl⟩)) | (go_at_call 66; ((with_reducible refine (Calls.kept_of (cV _)).mono ?_); rintro e _ ⟨rfl, p, rfl⟩)) | fail)
  clear z0 z1 z2 z3 z4 z5 z6 z7 z8 z9 z10 z11 z12 z13 z14 z15 z16 c0 c1 c2 c3 cA cS cK
  cases b1
  · obtain rfl : false = g := hb
    refine wp_region_kept (p.since) (by assumption) (by kernel_rfl) ?_
    repeat (with_reducible refine wpQuiet_step (fun K hK => ?_); go_simp; first | ((with_reducible refine hK _ ?_); clear hK K) | (with_reducible apply Exists.intro; (with_reducible refine ⟨fun _ => ?_, hK _ ?_⟩); ((first | (go_at_call 60; with_reducible exact Calls.kept_of (p1 _)) | (go_at_call 60; with_reducible exact Calls.kept_of (p2 _)) | (go_at_call 64; with_reducible exact Calls.kept_of (pp _)) | fail)); clear hK K) | (simp only [undef, reduceCtorEq, if_false]; (with_reducible refine hK _ ?_); clear hK K))
    with_reducible refine wpQuiet_nil ?_
    rintro _ ⟨p, rfl⟩
    go_wp2_with fail
    go_ret
    exact ⟨by simp, (((((nw_alloc _ _).alloc _).alloc _).tr HN1.out).tr HN2.out).tr p.since⟩
  · obtain rfl : b2 = g := hb
    cases b2
    · skip
      refine wp_region_kept (p.since) (by assumption) (by kernel_rfl) ?_
      repeat (with_reducible refine wpQuiet_step (fun K hK => ?_); go_simp; first | ((with_reducible refine hK _ ?_); clear hK K) | (with_reducible apply Exists.intro; (with_reducible refine ⟨fun _ => ?_, hK _ ?_⟩); ((first | (go_at_call 60; with_reducible exact Calls.kept_of (p1 _)) | (go_at_call 60; with_reducible exact Calls.kept_of (p2 _)) | (go_at_call 64; with_reducible exact Calls.kept_of (pp _)) | fail)); clear hK K) | (simp only [undef, reduceCtorEq, if_false]; (with_reducible refine hK _ ?_); clear hK K))
      with_reducible refine wpQuiet_nil ?_
      rintro _ ⟨p, rfl⟩
      go_wp2_with fail
      go_ret
      exact ⟨by simp, (((((nw_alloc _ _).alloc _).alloc _).tr HN1.out).tr HN2.out).tr p.since⟩
    · skip
      refine wp_region_kept (p.since) (by assumption) (by kernel_rfl) ?_
      repeat (with_reducible refine wpQuiet_step (fun K hK => ?_); go_simp; first | ((with_reducible refine hK _ ?_); clear hK K) | (with_reducible apply Exists.intro; (with_reducible refine ⟨fun _ => ?_, hK _ ?_⟩); ((first | (go_at_call 60; with_reducible exact Calls.kept_of (p1 _)) | (go_at_call 60; with_reducible exact Calls.kept_of (p2 _)) | (go_at_call 64; with_reducible exact Calls.kept_of (pp _)) | fail)); clear hK K) | (simp only [undef, reduceCtorEq, if_false]; (with_reducible refine hK _ ?_); clear hK K))
      with_reducible refine wpQuiet_nil ?_
      rintro _ ⟨p, rfl⟩
      go_wp2_with fail
      go_ret
      exact ⟨by simp, (((((nw_alloc _ _).alloc _).alloc _).tr HN1.out).tr HN2.out).tr p.since⟩

set_option maxRecDepth 100000 in
set_option maxHeartbeats 6400000 in
theorem common_share (ax ay bx bz cx cy dx dy px py : Int) (x1 x2 x3 x4 : Int) (w : World)
    (c1 : ∀ w1, Calls Try.prog 54 #[sV ax ay bx bz] w1 fun e w' => e = .returned (.bool true) ∧ Nw w1 w') (c2 : ∀ w1, Calls Try.prog 54 #[sV cx cy dx dy] w1 fun e w' => e = .returned (.bool true) ∧ Nw w1 w')
    (c3 : ∀ w1, Calls Try.prog 40 #[vV px py, .int .i64 4000] w1 fun e w' => e = .returned (.bool true) ∧ Nw w1 w')
    (cA : ∀ w1, Calls Try.prog 50 #[sV ax ay bx bz, sV cx cy dx dy] w1 fun e w' => e = .returned (.tuple #[pV 0 0 0, .bool false]) ∧ Nw w1 w')
    (cS : ∀ w1, Calls Try.prog 52 #[sV ax ay bx bz, sV cx cy dx dy] w1 fun e w' => e = .returned (.tuple #[sV x1 x2 x3 x4, .bool true]) ∧ Nw w1 w')
    (cK : ∀ w1, Calls Try.prog 56 #[sV ax ay bx bz, sV cx cy dx dy] w1 fun e w' => e = .returned (.int .i64 3) ∧ Nw w1 w')
    (b1 b2 : Bool) (p1 : ∀ w1, Calls Try.prog 60 #[sV ax ay bx bz, vV px py] w1 fun e w' => e = .returned (.bool b1) ∧ Nw w1 w') (p2 : ∀ w1, Calls Try.prog 60 #[sV cx cy dx dy, vV px py] w1 fun e w' => e = .returned (.bool b2) ∧ Nw w1 w')
    (o0 : ∀ w1, Calls Try.prog 60 #[sV ax ay bx bz, vV x1 x2] w1 fun e w' => e = .returned (.bool true) ∧ Nw w1 w')
    (o1 : ∀ w1, Calls Try.prog 60 #[sV ax ay bx bz, vV x3 x4] w1 fun e w' => e = .returned (.bool true) ∧ Nw w1 w')
    (o2 : ∀ w1, Calls Try.prog 60 #[sV cx cy dx dy, vV x1 x2] w1 fun e w' => e = .returned (.bool true) ∧ Nw w1 w')
    (o3 : ∀ w1, Calls Try.prog 60 #[sV cx cy dx dy, vV x3 x4] w1 fun e w' => e = .returned (.bool true) ∧ Nw w1 w')
    (cL : ∀ w1, Calls Try.prog 38 #[vV x1 x2, vV x3 x4] w1 fun e w' => e = .returned (.bool true) ∧ Nw w1 w')
    (h : Bool) (px4 : ∀ w1, Calls Try.prog 60 #[sV x1 x2 x3 x4, vV px py] w1 fun e w' => e = .returned (.bool h) ∧ Nw w1 w') (hb : (b1 && b2) = h) : Calls Try.prog 16 #[sV ax ay bx bz, sV cx cy dx dy, vV px py] w fun e w' => e = .returned (.bool true) ∧ Nw w w' := by
  have hmix := mixed7
  have c0 := fun w1 => awake7_any w1
  have pp := fun w1 => pointOf_any px py w1
  have hF : ∀ w', Nw (((w.alloc (.cells #[.int .i64 ax, .int .i64 ay, .int .i64 bx, .int .i64 bz] 51)).alloc (.cells #[.int .i64 cx, .int .i64 cy, .int .i64 dx, .int .i64 dy] 51)).alloc (.cells #[.int .i64 px, .int .i64 py] 23)) w' → Blk w' w.heap.size 51 #[.int .i64 ax, .int .i64 ay, .int .i64 bx, .int .i64 bz] ∧ Blk w' (w.heap.size + 1) 51 #[.int .i64 cx, .int .i64 cy, .int .i64 dx, .int .i64 dy] ∧ Blk w' (w.heap.size + 1 + 1) 23 #[.int .i64 px, .int .i64 py] := fun w' h => ⟨(((Blk.new_at w 51 #[.int .i64 ax, .int .i64 ay, .int .i64 bx, .int .i64 bz] (n := w.heap.size) rfl).alloc _).alloc _).kp h id, ((Blk.new_at _ 51 #[.int .i64 cx, .int .i64 cy, .int .i64 dx, .int .i64 dy] (n := w.heap.size + 1) (by simp)).alloc _).kp h id, (Blk.new_at _ 23 #[.int .i64 px, .int .i64 py] (n := w.heap.size + 1 + 1) (by simp)).kp h id⟩
  have HF := Lib.hid hF
  clear hF
  have hb0 := Blk.new_at w 51 #[.int .i64 ax, .int .i64 ay, .int .i64 bx, .int .i64 bz] (n := w.heap.size) (by simp)
  have hb1 := Blk.new_at (w.alloc (.cells #[.int .i64 ax, .int .i64 ay, .int .i64 bx, .int .i64 bz] 51)) 51 #[.int .i64 cx, .int .i64 cy, .int .i64 dx, .int .i64 dy] (n := w.heap.size + 1) (by simp)
  have hb2 := Blk.new_at ((w.alloc (.cells #[.int .i64 ax, .int .i64 ay, .int .i64 bx, .int .i64 bz] 51)).alloc (.cells #[.int .i64 cx, .int .i64 cy, .int .i64 dx, .int .i64 dy] 51)) 23 #[.int .i64 px, .int .i64 py] (n := w.heap.size + 1 + 1) (by simp)
  have hk0 : ∀ p : KeptW (((w.alloc (.cells #[.int .i64 ax, .int .i64 ay, .int .i64 bx, .int .i64 bz] 51)).alloc (.cells #[.int .i64 cx, .int .i64 cy, .int .i64 dx, .int .i64 dy] 51)).alloc (.cells #[.int .i64 px, .int .i64 py] 23)), Blk p.wd (w.heap.size) 51 #[.int .i64 ax, .int .i64 ay, .int .i64 bx, .int .i64 bz] := fun p => ((hb0.alloc _).alloc _).kept p
  have q0 := fun p => (hk0 p).cell 0
  have q1 := fun p => (hk0 p).cell 1
  have q2 := fun p => (hk0 p).cell 2
  have q3 := fun p => (hk0 p).cell 3
  have hk1 : ∀ p : KeptW (((w.alloc (.cells #[.int .i64 ax, .int .i64 ay, .int .i64 bx, .int .i64 bz] 51)).alloc (.cells #[.int .i64 cx, .int .i64 cy, .int .i64 dx, .int .i64 dy] 51)).alloc (.cells #[.int .i64 px, .int .i64 py] 23)), Blk p.wd (w.heap.size + 1) 51 #[.int .i64 cx, .int .i64 cy, .int .i64 dx, .int .i64 dy] := fun p => (hb1.alloc _).kept p
  have q4 := fun p => (hk1 p).cell 0
  have q5 := fun p => (hk1 p).cell 1
  have q6 := fun p => (hk1 p).cell 2
  have q7 := fun p => (hk1 p).cell 3
  have hk2 : ∀ p : KeptW (((w.alloc (.cells #[.int .i64 ax, .int .i64 ay, .int .i64 bx, .int .i64 bz] 51)).alloc (.cells #[.int .i64 cx, .int .i64 cy, .int .i64 dx, .int .i64 dy] 51)).alloc (.cells #[.int .i64 px, .int .i64 py] 23)), Blk p.wd (w.heap.size + 1 + 1) 23 #[.int .i64 px, .int .i64 py] := fun p => hb2.kept p
  have q8 := fun p => (hk2 p).cell 0
  have q9 := fun p => (hk2 p).cell 1
  skip
  clear hb0 hk0 hb1 hk1 hb2 hk2
  go_enter Try.func16, Try.ntmps16
  go_upto_region 6 with (first | (go_at_call 49; ((with_reducible refine (Calls.kept_first (c0 _)).mono ?_); rintro e _ ⟨rfl, p, rfl⟩)) | (go_at_call 54; ((with_reducible refine (Calls.kept_of (c1 _)).mono ?_); rintro e _ ⟨rfl, p, rfl⟩)) | (go_at_call 54; ((with_reducible refine (Calls.kept_of (c2 _)).mono ?_); rintro e _ ⟨rfl, p, rfl⟩)) | (go_at_call 40; ((with_reducible refine (Calls.kept_of (c3 _)).mono ?_); rintro e _ ⟨rfl, p, rfl⟩)) | (go_at_call 50; ((with_reducible refine (Calls.kept_of (cA _)).mono ?_); rintro e _ ⟨rfl, p, rfl⟩)) | fail)
  obtain ⟨g1, hg1⟩ : ∃ g, p.wd.heap.size = g := ⟨_, rfl⟩
  have hbb := Blk.new_at p.wd 53 #[.int .i64 0, .int .i64 0, .int .i64 0] hg1
  have hn1 := p.since.alloc (.cells #[.int .i64 0, .int .i64 0, .int .i64 0] 53)
  rw [hg1]
  generalize p.wd.alloc (.cells #[.int .i64 0, .int .i64 0, .int .i64 0] 53) = w1 at hbb hn1 ⊢
  clear hg1
  have HN1 := Lib.hid hn1
  have HB1 := Lib.hid hbb
  clear hn1 hbb q0 q1 q2 q3 q4 q5 q6 q7 q8 q9
  have q0 := fun p : KeptW w1 => (HF.out p.wd (HN1.out.tr p.since)).1.cell 0
  have q1 := fun p : KeptW w1 => (HF.out p.wd (HN1.out.tr p.since)).1.cell 1
  have q2 := fun p : KeptW w1 => (HF.out p.wd (HN1.out.tr p.since)).1.cell 2
  have q3 := fun p : KeptW w1 => (HF.out p.wd (HN1.out.tr p.since)).1.cell 3
  have q4 := fun p : KeptW w1 => (HF.out p.wd (HN1.out.tr p.since)).2.1.cell 0
  have q5 := fun p : KeptW w1 => (HF.out p.wd (HN1.out.tr p.since)).2.1.cell 1
  have q6 := fun p : KeptW w1 => (HF.out p.wd (HN1.out.tr p.since)).2.1.cell 2
  have q7 := fun p : KeptW w1 => (HF.out p.wd (HN1.out.tr p.since)).2.1.cell 3
  have q8 := fun p : KeptW w1 => (HF.out p.wd (HN1.out.tr p.since)).2.2.cell 0
  have q9 := fun p : KeptW w1 => (HF.out p.wd (HN1.out.tr p.since)).2.2.cell 1
  have z0 := q0 ⟨w1, Kp.refl _ _⟩
  have z1 := q1 ⟨w1, Kp.refl _ _⟩
  have z2 := q2 ⟨w1, Kp.refl _ _⟩
  have z3 := q3 ⟨w1, Kp.refl _ _⟩
  have z4 := q4 ⟨w1, Kp.refl _ _⟩
  have z5 := q5 ⟨w1, Kp.refl _ _⟩
  have z6 := q6 ⟨w1, Kp.refl _ _⟩
  have z7 := q7 ⟨w1, Kp.refl _ _⟩
  have z8 := q8 ⟨w1, Kp.refl _ _⟩
  have z9 := q9 ⟨w1, Kp.refl _ _⟩
  go_upto_region 7 with (first | (go_at_call 52; ((with_reducible refine (Calls.kept_first (cS _)).mono ?_); rintro e _ ⟨rfl, p, rfl⟩)) | fail)
  obtain ⟨g2, hg1⟩ : ∃ g, p.wd.heap.size = g := ⟨_, rfl⟩
  have hbb := Blk.new_at p.wd 51 #[.int .i64 x1, .int .i64 x2, .int .i64 x3, .int .i64 x4] hg1
  have hn1 := p.since.alloc (.cells #[.int .i64 x1, .int .i64 x2, .int .i64 x3, .int .i64 x4] 51)
  rw [hg1]
  generalize p.wd.alloc (.cells #[.int .i64 x1, .int .i64 x2, .int .i64 x3, .int .i64 x4] 51) = w2 at hbb hn1 ⊢
  clear hg1
  have HN2 := Lib.hid hn1
  have HB2 := Lib.hid hbb
  have HB1 := Lib.hid (HB1.out.nw hn1)
  clear hn1 hbb q0 z0 q1 z1 q2 z2 q3 z3 q4 z4 q5 z5 q6 z6 q7 z7 q8 z8 q9 z9
  have q0 := fun p : KeptW w2 => (HF.out p.wd ((HN1.out.tr HN2.out).tr p.since)).1.cell 0
  have q1 := fun p : KeptW w2 => (HF.out p.wd ((HN1.out.tr HN2.out).tr p.since)).1.cell 1
  have q2 := fun p : KeptW w2 => (HF.out p.wd ((HN1.out.tr HN2.out).tr p.since)).1.cell 2
  have q3 := fun p : KeptW w2 => (HF.out p.wd ((HN1.out.tr HN2.out).tr p.since)).1.cell 3
  have q4 := fun p : KeptW w2 => (HF.out p.wd ((HN1.out.tr HN2.out).tr p.since)).2.1.cell 0
  have q5 := fun p : KeptW w2 => (HF.out p.wd ((HN1.out.tr HN2.out).tr p.since)).2.1.cell 1
  have q6 := fun p : KeptW w2 => (HF.out p.wd ((HN1.out.tr HN2.out).tr p.since)).2.1.cell 2
  have q7 := fun p : KeptW w2 => (HF.out p.wd ((HN1.out.tr HN2.out).tr p.since)).2.1.cell 3
  have q8 := fun p : KeptW w2 => (HF.out p.wd ((HN1.out.tr HN2.out).tr p.since)).2.2.cell 0
  have q9 := fun p : KeptW w2 => (HF.out p.wd ((HN1.out.tr HN2.out).tr p.since)).2.2.cell 1
  have q10 := fun p : KeptW w2 => (HB1.out.kept p).cell 0
  have q11 := fun p : KeptW w2 => (HB1.out.kept p).cell 1
  have q12 := fun p : KeptW w2 => (HB1.out.kept p).cell 2
  have q13 := fun p : KeptW w2 => (HB2.out.kept p).cell 0
  have q14 := fun p : KeptW w2 => (HB2.out.kept p).cell 1
  have q15 := fun p : KeptW w2 => (HB2.out.kept p).cell 2
  have q16 := fun p : KeptW w2 => (HB2.out.kept p).cell 3
  have z0 := q0 ⟨w2, Kp.refl _ _⟩
  have z1 := q1 ⟨w2, Kp.refl _ _⟩
  have z2 := q2 ⟨w2, Kp.refl _ _⟩
  have z3 := q3 ⟨w2, Kp.refl _ _⟩
  have z4 := q4 ⟨w2, Kp.refl _ _⟩
  have z5 := q5 ⟨w2, Kp.refl _ _⟩
  have z6 := q6 ⟨w2, Kp.refl _ _⟩
  have z7 := q7 ⟨w2, Kp.refl _ _⟩
  have z8 := q8 ⟨w2, Kp.refl _ _⟩
  have z9 := q9 ⟨w2, Kp.refl _ _⟩
  have z10 := q10 ⟨w2, Kp.refl _ _⟩
  have z11 := q11 ⟨w2, Kp.refl _ _⟩
  have z12 := q12 ⟨w2, Kp.refl _ _⟩
  have z13 := q13 ⟨w2, Kp.refl _ _⟩
  have z14 := q14 ⟨w2, Kp.refl _ _⟩
  have z15 := q15 ⟨w2, Kp.refl _ _⟩
  have z16 := q16 ⟨w2, Kp.refl _ _⟩
  go_upto_region 12 with (first | (go_at_call 56; ((with_reducible refine (Calls.kept_first (cK _)).mono ?_); rintro e _ ⟨rfl, p, rfl⟩)) | (go_at_call 60; ((with_reducible refine (Calls.kept_of (o0 _)).mono ?_); rintro e _ ⟨rfl, p, rfl⟩)) | (go_at_call 60; ((with_reducible refine (Calls.kept_of (o1 _)).mono ?_); rintro e _ ⟨rfl, p, rfl⟩)) | (go_at_call 60; ((with_reducible refine (Calls.kept_of (o2 _)).mono ?_); rintro e _ ⟨rfl, p, rfl⟩)) | (go_at_call 60; ((with_reducible refine (Calls.kept_of (o3 _)).mono ?_); rintro e _ ⟨rfl, p, rfl⟩)) | (go_at_call 38; ((with_reducible refine (Calls.kept_of (cL _)).mono ?_); rintro e _ ⟨rfl, p, rfl⟩)) | fail)
  clear z0 z1 z2 z3 z4 z5 z6 z7 z8 z9 z10 z11 z12 z13 z14 z15 z16 c0 c1 c2 c3 cA cS cK
  cases b1
  · obtain rfl : false = h := hb
    refine wp_region_kept (p.since) (by assumption) (by kernel_rfl) ?_
    repeat (with_reducible refine wpQuiet_step (fun K hK => ?_); go_simp; first | ((with_reducible refine hK _ ?_); clear hK K) | (with_reducible apply Exists.intro; (with_reducible refine ⟨fun _ => ?_, hK _ ?_⟩); ((first | (go_at_call 60; with_reducible exact Calls.kept_of (p1 _)) | (go_at_call 60; with_reducible exact Calls.kept_of (p2 _)) | (go_at_call 60; with_reducible exact Calls.kept_of (px4 _)) | fail)); clear hK K) | (simp only [undef, reduceCtorEq, if_false]; (with_reducible refine hK _ ?_); clear hK K))
    with_reducible refine wpQuiet_nil ?_
    rintro _ ⟨p, rfl⟩
    go_wp2_with fail
    go_ret
    exact ⟨by simp, (((((nw_alloc _ _).alloc _).alloc _).tr HN1.out).tr HN2.out).tr p.since⟩
  · obtain rfl : b2 = h := hb
    refine wp_region_kept (p.since) (by assumption) (by kernel_rfl) ?_
    repeat (with_reducible refine wpQuiet_step (fun K hK => ?_); go_simp; first | ((with_reducible refine hK _ ?_); clear hK K) | (with_reducible apply Exists.intro; (with_reducible refine ⟨fun _ => ?_, hK _ ?_⟩); ((first | (go_at_call 60; with_reducible exact Calls.kept_of (p1 _)) | (go_at_call 60; with_reducible exact Calls.kept_of (p2 _)) | (go_at_call 60; with_reducible exact Calls.kept_of (px4 _)) | fail)); clear hK K) | (simp only [undef, reduceCtorEq, if_false]; (with_reducible refine hK _ ?_); clear hK K))
    with_reducible refine wpQuiet_nil ?_
    rintro _ ⟨p, rfl⟩
    go_wp2_with fail
    go_ret
    exact ⟨by simp, (((((nw_alloc _ _).alloc _).alloc _).tr HN1.out).tr HN2.out).tr p.since⟩

theorem kind_cases (ax ay bx bz cx cy dx dy : Int) : kindS ax ay bx bz cx cy dx dy = 0 ∨ kindS ax ay bx bz cx cy dx dy = 1 ∨ kindS ax ay bx bz cx cy dx dy = 2 ∨ kindS ax ay bx bz cx cy dx dy = 3 := by
  unfold kindS
  split
  · split
    · split
      · exact .inr (.inr (.inl rfl))
      · exact .inl rfl
    · split
      · exact .inr (.inl rfl)
      · exact .inr (.inr (.inr rfl))
  · exact .inl rfl
set_option maxRecDepth 100000 in
set_option maxHeartbeats 3200000 in
theorem segCommon_any (ax ay bx bz cx cy dx dy px py : Int) (w : World) : Calls Try.prog 16 #[sV ax ay bx bz, sV cx cy dx dy, vV px py] w fun e w' => e = .returned (.bool true) ∧ Nw w w' := by
  have c1 := fun w1 => valid_any ax ay bx bz w1
  have c2 := fun w1 => valid_any cx cy dx dy w1
  have c3 := fun w1 => rwithin_any px py 4000 w1
  by_cases h1 : validS ax ay bx bz = true
  · by_cases h2 : validS cx cy dx dy = true
    · by_cases h3 : withinV px py 4000 = true
      · have hp := within_lm.1 h3
        rw [h1] at c1
        rw [h2] at c2
        rw [h3] at c3
        have cA := fun w1 => at_any ax ay bx bz cx cy dx dy w1
        have cS := fun w1 => share_any ax ay bx bz cx cy dx dy w1
        have cK := fun w1 => meetK_any ax ay bx bz cx cy dx dy w1
        have p1 := fun w1 => on_any ax ay bx bz px py w1
        have p2 := fun w1 => on_any cx cy dx dy px py w1
        unfold atV atS at cA
        unfold shareV shareS at cS
        rcases kind_cases ax ay bx bz cx cy dx dy with hk | hk | hk | hk
        · rw [hk] at cA cS cK
          exact common_none ax ay bx bz cx cy dx dy px py w c1 c2 c3 cA cS cK _ _ p1 p2 (common0 h1 h2 hp hk)
        · obtain ⟨hc, hl⟩ := common1 h1 h2 hp hk
          rw [hk] at cA cS cK
          have cV := fun w1 => validPoint_any (partsS ax ay bx bz cx cy dx dy).1.1 (partsS ax ay bx bz cx cy dx dy).1.2 1 w1
          rw [valid_int hl] at cV
          exact common_touch ax ay bx bz cx cy dx dy px py _ _ _ w c1 c2 c3 cA cS cK _ _ p1 p2 cV _ rfl (by rw [hc]; simp)
        · obtain ⟨hc, hv⟩ := common2 h1 h2 hp hk
          rw [hk] at cA cS cK
          have cV := fun w1 => validPoint_any (crossS ax ay bx bz cx cy dx dy).1 (crossS ax ay bx bz cx cy dx dy).2.1 (crossS ax ay bx bz cx cy dx dy).2.2 w1
          rw [hv] at cV
          exact common_cross ax ay bx bz cx cy dx dy px py _ _ _ w c1 c2 c3 cA cS cK _ _ p1 p2 cV _ rfl hc
        · obtain ⟨hc, o0, o1, o2, o3, hl⟩ := common3 h1 h2 hp hk
          rw [hk] at cA cS cK
          have d0 := fun w1 => on_any ax ay bx bz (partsS ax ay bx bz cx cy dx dy).1.1 (partsS ax ay bx bz cx cy dx dy).1.2 w1
          have d1 := fun w1 => on_any ax ay bx bz (partsS ax ay bx bz cx cy dx dy).2.1 (partsS ax ay bx bz cx cy dx dy).2.2 w1
          have d2 := fun w1 => on_any cx cy dx dy (partsS ax ay bx bz cx cy dx dy).1.1 (partsS ax ay bx bz cx cy dx dy).1.2 w1
          have d3 := fun w1 => on_any cx cy dx dy (partsS ax ay bx bz cx cy dx dy).2.1 (partsS ax ay bx bz cx cy dx dy).2.2 w1
          have dl := fun w1 => rless_any (partsS ax ay bx bz cx cy dx dy).1.1 (partsS ax ay bx bz cx cy dx dy).1.2 (partsS ax ay bx bz cx cy dx dy).2.1 (partsS ax ay bx bz cx cy dx dy).2.2 w1
          rw [o0] at d0
          rw [o1] at d1
          rw [o2] at d2
          rw [o3] at d3
          rw [hl] at dl
          exact common_share ax ay bx bz cx cy dx dy px py _ _ _ _ w c1 c2 c3 cA cS cK _ _ p1 p2 d0 d1 d2 d3 dl _ (fun w1 => on_any _ _ _ _ px py w1) hc
      · rw [Bool.not_eq_true] at h3
        rw [h1] at c1
        rw [h2] at c2
        rw [h3] at c3
        clear h1 h2 h3
        have c0 := fun w1 => awake7_any w1
        have hb0 := Blk.new_at w 51 #[.int .i64 ax, .int .i64 ay, .int .i64 bx, .int .i64 bz] (n := w.heap.size) (by simp)
        have hb1 := Blk.new_at (w.alloc (.cells #[.int .i64 ax, .int .i64 ay, .int .i64 bx, .int .i64 bz] 51)) 51 #[.int .i64 cx, .int .i64 cy, .int .i64 dx, .int .i64 dy] (n := w.heap.size + 1) (by simp)
        have hb2 := Blk.new_at ((w.alloc (.cells #[.int .i64 ax, .int .i64 ay, .int .i64 bx, .int .i64 bz] 51)).alloc (.cells #[.int .i64 cx, .int .i64 cy, .int .i64 dx, .int .i64 dy] 51)) 23 #[.int .i64 px, .int .i64 py] (n := w.heap.size + 1 + 1) (by simp)
        have hk0 : ∀ p : KeptW (((w.alloc (.cells #[.int .i64 ax, .int .i64 ay, .int .i64 bx, .int .i64 bz] 51)).alloc (.cells #[.int .i64 cx, .int .i64 cy, .int .i64 dx, .int .i64 dy] 51)).alloc (.cells #[.int .i64 px, .int .i64 py] 23)), Blk p.wd (w.heap.size) 51 #[.int .i64 ax, .int .i64 ay, .int .i64 bx, .int .i64 bz] := fun p => ((hb0.alloc _).alloc _).kept p
        have q0 := fun p => (hk0 p).cell 0
        have q1 := fun p => (hk0 p).cell 1
        have q2 := fun p => (hk0 p).cell 2
        have q3 := fun p => (hk0 p).cell 3
        have hk1 : ∀ p : KeptW (((w.alloc (.cells #[.int .i64 ax, .int .i64 ay, .int .i64 bx, .int .i64 bz] 51)).alloc (.cells #[.int .i64 cx, .int .i64 cy, .int .i64 dx, .int .i64 dy] 51)).alloc (.cells #[.int .i64 px, .int .i64 py] 23)), Blk p.wd (w.heap.size + 1) 51 #[.int .i64 cx, .int .i64 cy, .int .i64 dx, .int .i64 dy] := fun p => (hb1.alloc _).kept p
        have q4 := fun p => (hk1 p).cell 0
        have q5 := fun p => (hk1 p).cell 1
        have q6 := fun p => (hk1 p).cell 2
        have q7 := fun p => (hk1 p).cell 3
        have hk2 : ∀ p : KeptW (((w.alloc (.cells #[.int .i64 ax, .int .i64 ay, .int .i64 bx, .int .i64 bz] 51)).alloc (.cells #[.int .i64 cx, .int .i64 cy, .int .i64 dx, .int .i64 dy] 51)).alloc (.cells #[.int .i64 px, .int .i64 py] 23)), Blk p.wd (w.heap.size + 1 + 1) 23 #[.int .i64 px, .int .i64 py] := fun p => hb2.kept p
        have q8 := fun p => (hk2 p).cell 0
        have q9 := fun p => (hk2 p).cell 1
        skip
        clear hb0 hk0 hb1 hk1 hb2 hk2
        go_enter Try.func16, Try.ntmps16
        go_wp2_with (first | (go_at_call 49; ((with_reducible refine (Calls.kept_first (c0 _)).mono ?_); rintro e _ ⟨rfl, p, rfl⟩)) | (go_at_call 54; ((with_reducible refine (Calls.kept_of (c1 _)).mono ?_); rintro e _ ⟨rfl, p, rfl⟩)) | (go_at_call 54; ((with_reducible refine (Calls.kept_of (c2 _)).mono ?_); rintro e _ ⟨rfl, p, rfl⟩)) | (go_at_call 40; ((with_reducible refine (Calls.kept_of (c3 _)).mono ?_); rintro e _ ⟨rfl, p, rfl⟩)) | fail)
        go_ret
        exact ⟨rfl, (((nw_alloc _ _).alloc _).alloc _).tr p.since⟩
    · rw [Bool.not_eq_true] at h2
      rw [h1] at c1
      rw [h2] at c2
      clear h1 h2
      have c0 := fun w1 => awake7_any w1
      have hb0 := Blk.new_at w 51 #[.int .i64 ax, .int .i64 ay, .int .i64 bx, .int .i64 bz] (n := w.heap.size) (by simp)
      have hb1 := Blk.new_at (w.alloc (.cells #[.int .i64 ax, .int .i64 ay, .int .i64 bx, .int .i64 bz] 51)) 51 #[.int .i64 cx, .int .i64 cy, .int .i64 dx, .int .i64 dy] (n := w.heap.size + 1) (by simp)
      have hb2 := Blk.new_at ((w.alloc (.cells #[.int .i64 ax, .int .i64 ay, .int .i64 bx, .int .i64 bz] 51)).alloc (.cells #[.int .i64 cx, .int .i64 cy, .int .i64 dx, .int .i64 dy] 51)) 23 #[.int .i64 px, .int .i64 py] (n := w.heap.size + 1 + 1) (by simp)
      have hk0 : ∀ p : KeptW (((w.alloc (.cells #[.int .i64 ax, .int .i64 ay, .int .i64 bx, .int .i64 bz] 51)).alloc (.cells #[.int .i64 cx, .int .i64 cy, .int .i64 dx, .int .i64 dy] 51)).alloc (.cells #[.int .i64 px, .int .i64 py] 23)), Blk p.wd (w.heap.size) 51 #[.int .i64 ax, .int .i64 ay, .int .i64 bx, .int .i64 bz] := fun p => ((hb0.alloc _).alloc _).kept p
      have q0 := fun p => (hk0 p).cell 0
      have q1 := fun p => (hk0 p).cell 1
      have q2 := fun p => (hk0 p).cell 2
      have q3 := fun p => (hk0 p).cell 3
      have hk1 : ∀ p : KeptW (((w.alloc (.cells #[.int .i64 ax, .int .i64 ay, .int .i64 bx, .int .i64 bz] 51)).alloc (.cells #[.int .i64 cx, .int .i64 cy, .int .i64 dx, .int .i64 dy] 51)).alloc (.cells #[.int .i64 px, .int .i64 py] 23)), Blk p.wd (w.heap.size + 1) 51 #[.int .i64 cx, .int .i64 cy, .int .i64 dx, .int .i64 dy] := fun p => (hb1.alloc _).kept p
      have q4 := fun p => (hk1 p).cell 0
      have q5 := fun p => (hk1 p).cell 1
      have q6 := fun p => (hk1 p).cell 2
      have q7 := fun p => (hk1 p).cell 3
      have hk2 : ∀ p : KeptW (((w.alloc (.cells #[.int .i64 ax, .int .i64 ay, .int .i64 bx, .int .i64 bz] 51)).alloc (.cells #[.int .i64 cx, .int .i64 cy, .int .i64 dx, .int .i64 dy] 51)).alloc (.cells #[.int .i64 px, .int .i64 py] 23)), Blk p.wd (w.heap.size + 1 + 1) 23 #[.int .i64 px, .int .i64 py] := fun p => hb2.kept p
      have q8 := fun p => (hk2 p).cell 0
      have q9 := fun p => (hk2 p).cell 1
      skip
      clear hb0 hk0 hb1 hk1 hb2 hk2
      go_enter Try.func16, Try.ntmps16
      go_wp2_with (first | (go_at_call 49; ((with_reducible refine (Calls.kept_first (c0 _)).mono ?_); rintro e _ ⟨rfl, p, rfl⟩)) | (go_at_call 54; ((with_reducible refine (Calls.kept_of (c1 _)).mono ?_); rintro e _ ⟨rfl, p, rfl⟩)) | (go_at_call 54; ((with_reducible refine (Calls.kept_of (c2 _)).mono ?_); rintro e _ ⟨rfl, p, rfl⟩)) | (go_at_call 40; ((with_reducible refine (Calls.kept_of (c3 _)).mono ?_); rintro e _ ⟨rfl, p, rfl⟩)) | fail)
      go_ret
      exact ⟨rfl, (((nw_alloc _ _).alloc _).alloc _).tr p.since⟩
  · rw [Bool.not_eq_true] at h1
    rw [h1] at c1
    clear h1
    have c0 := fun w1 => awake7_any w1
    have hb0 := Blk.new_at w 51 #[.int .i64 ax, .int .i64 ay, .int .i64 bx, .int .i64 bz] (n := w.heap.size) (by simp)
    have hb1 := Blk.new_at (w.alloc (.cells #[.int .i64 ax, .int .i64 ay, .int .i64 bx, .int .i64 bz] 51)) 51 #[.int .i64 cx, .int .i64 cy, .int .i64 dx, .int .i64 dy] (n := w.heap.size + 1) (by simp)
    have hb2 := Blk.new_at ((w.alloc (.cells #[.int .i64 ax, .int .i64 ay, .int .i64 bx, .int .i64 bz] 51)).alloc (.cells #[.int .i64 cx, .int .i64 cy, .int .i64 dx, .int .i64 dy] 51)) 23 #[.int .i64 px, .int .i64 py] (n := w.heap.size + 1 + 1) (by simp)
    have hk0 : ∀ p : KeptW (((w.alloc (.cells #[.int .i64 ax, .int .i64 ay, .int .i64 bx, .int .i64 bz] 51)).alloc (.cells #[.int .i64 cx, .int .i64 cy, .int .i64 dx, .int .i64 dy] 51)).alloc (.cells #[.int .i64 px, .int .i64 py] 23)), Blk p.wd (w.heap.size) 51 #[.int .i64 ax, .int .i64 ay, .int .i64 bx, .int .i64 bz] := fun p => ((hb0.alloc _).alloc _).kept p
    have q0 := fun p => (hk0 p).cell 0
    have q1 := fun p => (hk0 p).cell 1
    have q2 := fun p => (hk0 p).cell 2
    have q3 := fun p => (hk0 p).cell 3
    have hk1 : ∀ p : KeptW (((w.alloc (.cells #[.int .i64 ax, .int .i64 ay, .int .i64 bx, .int .i64 bz] 51)).alloc (.cells #[.int .i64 cx, .int .i64 cy, .int .i64 dx, .int .i64 dy] 51)).alloc (.cells #[.int .i64 px, .int .i64 py] 23)), Blk p.wd (w.heap.size + 1) 51 #[.int .i64 cx, .int .i64 cy, .int .i64 dx, .int .i64 dy] := fun p => (hb1.alloc _).kept p
    have q4 := fun p => (hk1 p).cell 0
    have q5 := fun p => (hk1 p).cell 1
    have q6 := fun p => (hk1 p).cell 2
    have q7 := fun p => (hk1 p).cell 3
    have hk2 : ∀ p : KeptW (((w.alloc (.cells #[.int .i64 ax, .int .i64 ay, .int .i64 bx, .int .i64 bz] 51)).alloc (.cells #[.int .i64 cx, .int .i64 cy, .int .i64 dx, .int .i64 dy] 51)).alloc (.cells #[.int .i64 px, .int .i64 py] 23)), Blk p.wd (w.heap.size + 1 + 1) 23 #[.int .i64 px, .int .i64 py] := fun p => hb2.kept p
    have q8 := fun p => (hk2 p).cell 0
    have q9 := fun p => (hk2 p).cell 1
    skip
    clear hb0 hk0 hb1 hk1 hb2 hk2
    go_enter Try.func16, Try.ntmps16
    go_wp2_with (first | (go_at_call 49; ((with_reducible refine (Calls.kept_first (c0 _)).mono ?_); rintro e _ ⟨rfl, p, rfl⟩)) | (go_at_call 54; ((with_reducible refine (Calls.kept_of (c1 _)).mono ?_); rintro e _ ⟨rfl, p, rfl⟩)) | (go_at_call 54; ((with_reducible refine (Calls.kept_of (c2 _)).mono ?_); rintro e _ ⟨rfl, p, rfl⟩)) | (go_at_call 40; ((with_reducible refine (Calls.kept_of (c3 _)).mono ?_); rintro e _ ⟨rfl, p, rfl⟩)) | fail)
    go_ret
    exact ⟨rfl, (((nw_alloc _ _).alloc _).alloc _).tr p.since⟩

end Go.Proofs.Ytgmojgeclljajaa.W
