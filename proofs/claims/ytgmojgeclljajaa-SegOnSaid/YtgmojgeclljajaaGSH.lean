/-
  SegOn: the call returns true. No condition.
-/
import Derived.Test.YtgmojgeclljajaaGSE
import Derived.Test.YtgmojgeclljajaaGSD
namespace Go.Proofs.Ytgmojgeclljajaa.W
open Go.RowKit Go.Proofs.Ytgmojgeclljajaa.V Go.Proofs.Ytgmojgeclljajaa.G

set_option maxRecDepth 100000 in
set_option maxHeartbeats 3200000 in
theorem segOn_any (ax ay bx bz px py x y d : Int) (w : World) : Calls Try.prog 12 #[sV ax ay bx bz, vV px py, pV x y d] w fun e w' => e = .returned (.bool true) ∧ Nw w w' := by
  have hmix := mixed7
  have c0 := fun w1 => awake7_any w1
  have c1 := fun w1 => whole_any x y d w1
  have c2 := fun w1 => rwhole_any x y d w1
  have c3 := fun w1 => on_any ax ay bx bz px py w1
  have c4 := fun w1 => ron_any ax ay bx bz px py w1
  have c5 := fun w1 => side_any ax ay bx bz px py w1
  have c6 := fun w1 => rside_any ax ay bx bz px py w1
  have c7 := fun w1 => pointOf_any px py w1
  have c8 := fun w1 => rpointOf_any px py w1
  obtain ⟨vx, vy, ok, hw⟩ : ∃ vx vy ok, wholeV x y d = .tuple #[vV vx vy, .bool ok] := by
    unfold wholeV
    split
    · exact ⟨_, _, _, rfl⟩
    · exact ⟨_, _, _, rfl⟩
  rw [hw] at c1 c2
  clear hw
  generalize onS ax ay bx bz px py = a at *
  generalize sideS ax ay bx bz px py = b at *
  have e1 : (a == a) = true := by simp
  have e2 : (ok == ok) = true := by simp
  have h1 := fun w1 => eql_pt px py 1 px py 1 w1
  have h2 := fun w1 => eql_vecg vx vy vx vy w1
  simp only [beq_self_eq_true, Bool.and_self] at h1 h2
  have hF : ∀ w', Nw (((w.alloc (.cells #[.int .i64 ax, .int .i64 ay, .int .i64 bx, .int .i64 bz] 51)).alloc (.cells #[.int .i64 px, .int .i64 py] 23)).alloc (.cells #[.int .i64 x, .int .i64 y, .int .i64 d] 53)) w' → Blk w' w.heap.size 51 #[.int .i64 ax, .int .i64 ay, .int .i64 bx, .int .i64 bz] ∧ Blk w' (w.heap.size + 1) 23 #[.int .i64 px, .int .i64 py] ∧ Blk w' (w.heap.size + 1 + 1) 53 #[.int .i64 x, .int .i64 y, .int .i64 d] := fun w' h => ⟨(((Blk.new_at w 51 #[.int .i64 ax, .int .i64 ay, .int .i64 bx, .int .i64 bz] (n := w.heap.size) rfl).alloc _).alloc _).kp h id, ((Blk.new_at _ 23 #[.int .i64 px, .int .i64 py] (n := w.heap.size + 1) (by simp)).alloc _).kp h id, (Blk.new_at _ 53 #[.int .i64 x, .int .i64 y, .int .i64 d] (n := w.heap.size + 1 + 1) (by simp)).kp h id⟩
  have HF := Lib.hid hF
  clear hF
  have hb0 := Blk.new_at w 51 #[.int .i64 ax, .int .i64 ay, .int .i64 bx, .int .i64 bz] (n := w.heap.size) (by simp)
  have hb1 := Blk.new_at (w.alloc (.cells #[.int .i64 ax, .int .i64 ay, .int .i64 bx, .int .i64 bz] 51)) 23 #[.int .i64 px, .int .i64 py] (n := w.heap.size + 1) (by simp)
  have hb2 := Blk.new_at ((w.alloc (.cells #[.int .i64 ax, .int .i64 ay, .int .i64 bx, .int .i64 bz] 51)).alloc (.cells #[.int .i64 px, .int .i64 py] 23)) 53 #[.int .i64 x, .int .i64 y, .int .i64 d] (n := w.heap.size + 1 + 1) (by simp)
  have hk0 : ∀ p : KeptW (((w.alloc (.cells #[.int .i64 ax, .int .i64 ay, .int .i64 bx, .int .i64 bz] 51)).alloc (.cells #[.int .i64 px, .int .i64 py] 23)).alloc (.cells #[.int .i64 x, .int .i64 y, .int .i64 d] 53)), Blk p.wd (w.heap.size) 51 #[.int .i64 ax, .int .i64 ay, .int .i64 bx, .int .i64 bz] := fun p => ((hb0.alloc _).alloc _).kept p
  have q0 := fun p => (hk0 p).cell 0
  have q1 := fun p => (hk0 p).cell 1
  have q2 := fun p => (hk0 p).cell 2
  have q3 := fun p => (hk0 p).cell 3
  have hk1 : ∀ p : KeptW (((w.alloc (.cells #[.int .i64 ax, .int .i64 ay, .int .i64 bx, .int .i64 bz] 51)).alloc (.cells #[.int .i64 px, .int .i64 py] 23)).alloc (.cells #[.int .i64 x, .int .i64 y, .int .i64 d] 53)), Blk p.wd (w.heap.size + 1) 23 #[.int .i64 px, .int .i64 py] := fun p => (hb1.alloc _).kept p
  have q4 := fun p => (hk1 p).cell 0
  have q5 := fun p => (hk1 p).cell 1
  have hk2 : ∀ p : KeptW (((w.alloc (.cells #[.int .i64 ax, .int .i64 ay, .int .i64 bx, .int .i64 bz] 51)).alloc (.cells #[.int .i64 px, .int .i64 py] 23)).alloc (.cells #[.int .i64 x, .int .i64 y, .int .i64 d] 53)), Blk p.wd (w.heap.size + 1 + 1) 53 #[.int .i64 x, .int .i64 y, .int .i64 d] := fun p => hb2.kept p
  have q6 := fun p => (hk2 p).cell 0
  have q7 := fun p => (hk2 p).cell 1
  have q8 := fun p => (hk2 p).cell 2
  skip
  clear hb0 hk0 hb1 hk1 hb2 hk2
  go_enter Try.func12, Try.ntmps12
  go_upto_region 4 with (first | (go_at_call 49; ((with_reducible refine (Calls.kept_first (c0 _)).mono ?_); rintro e _ ⟨rfl, p, rfl⟩)) | (go_at_call 58; ((with_reducible refine (Calls.kept_of (c1 _)).mono ?_); rintro e _ ⟨rfl, p, rfl⟩)) | fail)
  obtain ⟨g1, hg1⟩ : ∃ g, p.wd.heap.size = g := ⟨_, rfl⟩
  have hbb := Blk.new_at p.wd 23 #[.int .i64 vx, .int .i64 vy] hg1
  have hn1 := p.since.alloc (.cells #[.int .i64 vx, .int .i64 vy] 23)
  rw [hg1]
  generalize p.wd.alloc (.cells #[.int .i64 vx, .int .i64 vy] 23) = w1 at hbb hn1 ⊢
  clear hg1
  have HN1 := Lib.hid hn1
  have HB1 := Lib.hid hbb
  clear hn1 hbb q0 q1 q2 q3 q4 q5 q6 q7 q8
  have q0 := fun p : KeptW w1 => (HF.out p.wd (HN1.out.tr p.since)).1.cell 0
  have q1 := fun p : KeptW w1 => (HF.out p.wd (HN1.out.tr p.since)).1.cell 1
  have q2 := fun p : KeptW w1 => (HF.out p.wd (HN1.out.tr p.since)).1.cell 2
  have q3 := fun p : KeptW w1 => (HF.out p.wd (HN1.out.tr p.since)).1.cell 3
  have q4 := fun p : KeptW w1 => (HF.out p.wd (HN1.out.tr p.since)).2.1.cell 0
  have q5 := fun p : KeptW w1 => (HF.out p.wd (HN1.out.tr p.since)).2.1.cell 1
  have q6 := fun p : KeptW w1 => (HF.out p.wd (HN1.out.tr p.since)).2.2.cell 0
  have q7 := fun p : KeptW w1 => (HF.out p.wd (HN1.out.tr p.since)).2.2.cell 1
  have q8 := fun p : KeptW w1 => (HF.out p.wd (HN1.out.tr p.since)).2.2.cell 2
  have q9 := fun p : KeptW w1 => (HB1.out.kept p).cell 0
  have q10 := fun p : KeptW w1 => (HB1.out.kept p).cell 1
  have z0 := q0 ⟨w1, Kp.refl _ _⟩
  have z1 := q1 ⟨w1, Kp.refl _ _⟩
  have z2 := q2 ⟨w1, Kp.refl _ _⟩
  have z3 := q3 ⟨w1, Kp.refl _ _⟩
  have z4 := q4 ⟨w1, Kp.refl _ _⟩
  have z5 := q5 ⟨w1, Kp.refl _ _⟩
  have z6 := q6 ⟨w1, Kp.refl _ _⟩
  have z7 := q7 ⟨w1, Kp.refl _ _⟩
  have z8 := q8 ⟨w1, Kp.refl _ _⟩
  have z9 := q9 ⟨w1, Kp.refl _ _⟩
  have z10 := q10 ⟨w1, Kp.refl _ _⟩
  go_upto_region 5 with (first | (go_at_call 59; ((with_reducible refine (Calls.kept_first (c2 _)).mono ?_); rintro e _ ⟨rfl, p, rfl⟩)) | fail)
  obtain ⟨g2, hg1⟩ : ∃ g, p.wd.heap.size = g := ⟨_, rfl⟩
  have hbb := Blk.new_at p.wd 23 #[.int .i64 vx, .int .i64 vy] hg1
  have hn1 := p.since.alloc (.cells #[.int .i64 vx, .int .i64 vy] 23)
  rw [hg1]
  generalize p.wd.alloc (.cells #[.int .i64 vx, .int .i64 vy] 23) = w2 at hbb hn1 ⊢
  clear hg1
  have HN2 := Lib.hid hn1
  have HB2 := Lib.hid hbb
  have HB1 := Lib.hid (HB1.out.nw hn1)
  clear hn1 hbb q0 z0 q1 z1 q2 z2 q3 z3 q4 z4 q5 z5 q6 z6 q7 z7 q8 z8 q9 z9 q10 z10
  have q0 := fun p : KeptW w2 => (HF.out p.wd ((HN1.out.tr HN2.out).tr p.since)).1.cell 0
  have q1 := fun p : KeptW w2 => (HF.out p.wd ((HN1.out.tr HN2.out).tr p.since)).1.cell 1
  have q2 := fun p : KeptW w2 => (HF.out p.wd ((HN1.out.tr HN2.out).tr p.since)).1.cell 2
  have q3 := fun p : KeptW w2 => (HF.out p.wd ((HN1.out.tr HN2.out).tr p.since)).1.cell 3
  have q4 := fun p : KeptW w2 => (HF.out p.wd ((HN1.out.tr HN2.out).tr p.since)).2.1.cell 0
  have q5 := fun p : KeptW w2 => (HF.out p.wd ((HN1.out.tr HN2.out).tr p.since)).2.1.cell 1
  have q6 := fun p : KeptW w2 => (HF.out p.wd ((HN1.out.tr HN2.out).tr p.since)).2.2.cell 0
  have q7 := fun p : KeptW w2 => (HF.out p.wd ((HN1.out.tr HN2.out).tr p.since)).2.2.cell 1
  have q8 := fun p : KeptW w2 => (HF.out p.wd ((HN1.out.tr HN2.out).tr p.since)).2.2.cell 2
  have q9 := fun p : KeptW w2 => (HB1.out.kept p).cell 0
  have q10 := fun p : KeptW w2 => (HB1.out.kept p).cell 1
  have q11 := fun p : KeptW w2 => (HB2.out.kept p).cell 0
  have q12 := fun p : KeptW w2 => (HB2.out.kept p).cell 1
  have z0 := q0 ⟨w2, Kp.refl _ _⟩
  have z1 := q1 ⟨w2, Kp.refl _ _⟩
  have z2 := q2 ⟨w2, Kp.refl _ _⟩
  have z3 := q3 ⟨w2, Kp.refl _ _⟩
  have z4 := q4 ⟨w2, Kp.refl _ _⟩
  have z5 := q5 ⟨w2, Kp.refl _ _⟩
  have z6 := q6 ⟨w2, Kp.refl _ _⟩
  have z7 := q7 ⟨w2, Kp.refl _ _⟩
  have z8 := q8 ⟨w2, Kp.refl _ _⟩
  have z9 := q9 ⟨w2, Kp.refl _ _⟩
  have z10 := q10 ⟨w2, Kp.refl _ _⟩
  have z11 := q11 ⟨w2, Kp.refl _ _⟩
  have z12 := q12 ⟨w2, Kp.refl _ _⟩
  clear z0 z1 z2 z3 z4 z5 z6 z7 z8 z9 z10 z11 z12
  refine wp_region_kept (Kp.refl _ _) (by assumption) (by kernel_rfl) ?_
  repeat (with_reducible refine wpQuiet_step (fun K hK => ?_); go_simp; first | ((with_reducible refine hK _ ?_); clear hK K) | (with_reducible apply Exists.intro; (with_reducible refine ⟨fun _ => ?_, hK _ ?_⟩); ((first | (go_at_call 60; with_reducible exact Calls.kept_of (c3 _)) | (go_at_call 61; with_reducible exact Calls.kept_of (c4 _)) | (go_at_call 62; with_reducible exact Calls.kept_of (c5 _)) | (go_at_call 63; with_reducible exact Calls.kept_of (c6 _)) | (go_at_call 64; with_reducible exact Calls.kept_of (c7 _)) | (go_at_call 65; with_reducible exact Calls.kept_of (c8 _)) | fail)); clear hK K))
  with_reducible refine wpQuiet_nil ?_
  rintro _ ⟨p, rfl⟩
  go_wp2_with fail
  go_ret
  exact ⟨by simp, ((((nw_alloc _ _).alloc _).alloc _).tr HN1.out |>.tr HN2.out).tr p.since⟩
end Go.Proofs.Ytgmojgeclljajaa.W
