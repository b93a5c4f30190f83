/-
  SegMeet: the call returns true. No condition.
-/
import Derived.Test.YtgmojgeclljajaaGSP
import Derived.Test.YtgmojgeclljajaaGSE
namespace Go.Proofs.Ytgmojgeclljajaa.W
open Go.RowKit Go.Proofs.Ytgmojgeclljajaa.V Go.Proofs.Ytgmojgeclljajaa.G

set_option maxRecDepth 100000 in
set_option maxHeartbeats 6400000 in
theorem segMeet_any (ax ay bx bz cx cy dx dy : Int) (w : World) : Calls Try.prog 11 #[sV ax ay bx bz, sV cx cy dx dy] w fun e w' => e = .returned (.bool true) ∧ Nw w w' := by
  have hmix := mixed7
  have c0 := fun w1 => awake7_any w1
  have c1 := fun w1 => valid_any ax ay bx bz w1
  have c2 := fun w1 => rvalid_any ax ay bx bz w1
  have cA := fun w1 => at_any ax ay bx bz cx cy dx dy w1
  have cB := fun w1 => rat_any ax ay bx bz cx cy dx dy w1
  have cS := fun w1 => share_any ax ay bx bz cx cy dx dy w1
  have cT := fun w1 => rshare_any ax ay bx bz cx cy dx dy w1
  have cK := fun w1 => meetK_any ax ay bx bz cx cy dx dy w1
  have cL := fun w1 => rmeet_any ax ay bx bz cx cy dx dy w1
  unfold atV at cA cB
  unfold shareV at cS cT
  generalize (kindS ax ay bx bz cx cy dx dy == 1 || kindS ax ay bx bz cx cy dx dy == 2) = ok at *
  generalize (kindS ax ay bx bz cx cy dx dy == 3) = is at *
  generalize kindS ax ay bx bz cx cy dx dy = k at *
  generalize atS ax ay bx bz cx cy dx dy = q at *
  generalize shareS ax ay bx bz cx cy dx dy = x at *
  generalize validS ax ay bx bz = a at *
  obtain ⟨q1, q2, q3⟩ := q
  obtain ⟨⟨x1, x2⟩, ⟨x3, x4⟩⟩ := x
  have e1 : (a == a) = true := by simp
  have e2 : (ok == ok) = true := by simp
  have e3 : (is == is) = true := by simp
  have h1 := fun w1 => eql_pt q1 q2 q3 q1 q2 q3 w1
  have h2 := fun w1 => eql_seg x1 x2 x3 x4 x1 x2 x3 x4 w1
  simp only [beq_self_eq_true, Bool.and_self] at h1 h2
  have hF : ∀ w', Nw ((w.alloc (.cells #[.int .i64 ax, .int .i64 ay, .int .i64 bx, .int .i64 bz] 51)).alloc (.cells #[.int .i64 cx, .int .i64 cy, .int .i64 dx, .int .i64 dy] 51)) w' → Blk w' w.heap.size 51 #[.int .i64 ax, .int .i64 ay, .int .i64 bx, .int .i64 bz] ∧ Blk w' (w.heap.size + 1) 51 #[.int .i64 cx, .int .i64 cy, .int .i64 dx, .int .i64 dy] := fun w' h => ⟨((Blk.new_at w 51 #[.int .i64 ax, .int .i64 ay, .int .i64 bx, .int .i64 bz] (n := w.heap.size) rfl).alloc _).kp h id, (Blk.new_at _ 51 #[.int .i64 cx, .int .i64 cy, .int .i64 dx, .int .i64 dy] (n := w.heap.size + 1) (by simp)).kp h id⟩
  have HF := Lib.hid hF
  clear hF
  have hb0 := Blk.new_at w 51 #[.int .i64 ax, .int .i64 ay, .int .i64 bx, .int .i64 bz] (n := w.heap.size) (by simp)
  have hb1 := Blk.new_at (w.alloc (.cells #[.int .i64 ax, .int .i64 ay, .int .i64 bx, .int .i64 bz] 51)) 51 #[.int .i64 cx, .int .i64 cy, .int .i64 dx, .int .i64 dy] (n := w.heap.size + 1) (by simp)
  have hk0 : ∀ p : KeptW ((w.alloc (.cells #[.int .i64 ax, .int .i64 ay, .int .i64 bx, .int .i64 bz] 51)).alloc (.cells #[.int .i64 cx, .int .i64 cy, .int .i64 dx, .int .i64 dy] 51)), Blk p.wd (w.heap.size) 51 #[.int .i64 ax, .int .i64 ay, .int .i64 bx, .int .i64 bz] := fun p => (hb0.alloc _).kept p
  have qq0 := fun p => (hk0 p).cell 0
  have qq1 := fun p => (hk0 p).cell 1
  have qq2 := fun p => (hk0 p).cell 2
  have qq3 := fun p => (hk0 p).cell 3
  have hk1 : ∀ p : KeptW ((w.alloc (.cells #[.int .i64 ax, .int .i64 ay, .int .i64 bx, .int .i64 bz] 51)).alloc (.cells #[.int .i64 cx, .int .i64 cy, .int .i64 dx, .int .i64 dy] 51)), Blk p.wd (w.heap.size + 1) 51 #[.int .i64 cx, .int .i64 cy, .int .i64 dx, .int .i64 dy] := fun p => hb1.kept p
  have qq4 := fun p => (hk1 p).cell 0
  have qq5 := fun p => (hk1 p).cell 1
  have qq6 := fun p => (hk1 p).cell 2
  have qq7 := fun p => (hk1 p).cell 3
  skip
  clear hb0 hk0 hb1 hk1
  go_enter Try.func11, Try.ntmps11
  go_upto_region 4 with (first | (go_at_call 49; ((with_reducible refine (Calls.kept_first (c0 _)).mono ?_); rintro e _ ⟨rfl, p, rfl⟩)) | (go_at_call 50; ((with_reducible refine (Calls.kept_of (cA _)).mono ?_); rintro e _ ⟨rfl, p, rfl⟩)) | fail)
  obtain ⟨g1, hg1⟩ : ∃ g, p.wd.heap.size = g := ⟨_, rfl⟩
  have hbb := Blk.new_at p.wd 53 #[.int .i64 q1, .int .i64 q2, .int .i64 q3] hg1
  have hn1 := p.since.alloc (.cells #[.int .i64 q1, .int .i64 q2, .int .i64 q3] 53)
  rw [hg1]
  generalize p.wd.alloc (.cells #[.int .i64 q1, .int .i64 q2, .int .i64 q3] 53) = w1 at hbb hn1 ⊢
  have HN0 := Lib.hid (hn1)
  have HB0 := Lib.hid hbb
  clear hg1 hbb hn1
  clear qq0 qq1 qq2 qq3 qq4 qq5 qq6 qq7
  have qq0 := fun p : KeptW w1 => (HF.out p.wd (HN0.out.tr p.since)).1.cell 0
  have qq1 := fun p : KeptW w1 => (HF.out p.wd (HN0.out.tr p.since)).1.cell 1
  have qq2 := fun p : KeptW w1 => (HF.out p.wd (HN0.out.tr p.since)).1.cell 2
  have qq3 := fun p : KeptW w1 => (HF.out p.wd (HN0.out.tr p.since)).1.cell 3
  have qq4 := fun p : KeptW w1 => (HF.out p.wd (HN0.out.tr p.since)).2.cell 0
  have qq5 := fun p : KeptW w1 => (HF.out p.wd (HN0.out.tr p.since)).2.cell 1
  have qq6 := fun p : KeptW w1 => (HF.out p.wd (HN0.out.tr p.since)).2.cell 2
  have qq7 := fun p : KeptW w1 => (HF.out p.wd (HN0.out.tr p.since)).2.cell 3
  have zz0 := qq0 ⟨w1, Kp.refl _ _⟩
  have zz1 := qq1 ⟨w1, Kp.refl _ _⟩
  have zz2 := qq2 ⟨w1, Kp.refl _ _⟩
  have zz3 := qq3 ⟨w1, Kp.refl _ _⟩
  have zz4 := qq4 ⟨w1, Kp.refl _ _⟩
  have zz5 := qq5 ⟨w1, Kp.refl _ _⟩
  have zz6 := qq6 ⟨w1, Kp.refl _ _⟩
  have zz7 := qq7 ⟨w1, Kp.refl _ _⟩
  go_upto_region 5 with (first | (go_at_call 51; ((with_reducible refine (Calls.kept_first (cB _)).mono ?_); rintro e _ ⟨rfl, p, rfl⟩)) | fail)
  obtain ⟨g2, hg1⟩ : ∃ g, p.wd.heap.size = g := ⟨_, rfl⟩
  have hbb := Blk.new_at p.wd 53 #[.int .i64 q1, .int .i64 q2, .int .i64 q3] hg1
  have hn1 := p.since.alloc (.cells #[.int .i64 q1, .int .i64 q2, .int .i64 q3] 53)
  rw [hg1]
  generalize p.wd.alloc (.cells #[.int .i64 q1, .int .i64 q2, .int .i64 q3] 53) = w2 at hbb hn1 ⊢
  have HN1 := Lib.hid (HN0.out.tr hn1)
  have HB0 := Lib.hid (HB0.out.nw hn1)
  have HB1 := Lib.hid hbb
  clear hg1 hbb hn1
  clear qq0 zz0 qq1 zz1 qq2 zz2 qq3 zz3 qq4 zz4 qq5 zz5 qq6 zz6 qq7 zz7
  have qq0 := fun p : KeptW w2 => (HF.out p.wd (HN1.out.tr p.since)).1.cell 0
  have qq1 := fun p : KeptW w2 => (HF.out p.wd (HN1.out.tr p.since)).1.cell 1
  have qq2 := fun p : KeptW w2 => (HF.out p.wd (HN1.out.tr p.since)).1.cell 2
  have qq3 := fun p : KeptW w2 => (HF.out p.wd (HN1.out.tr p.since)).1.cell 3
  have qq4 := fun p : KeptW w2 => (HF.out p.wd (HN1.out.tr p.since)).2.cell 0
  have qq5 := fun p : KeptW w2 => (HF.out p.wd (HN1.out.tr p.since)).2.cell 1
  have qq6 := fun p : KeptW w2 => (HF.out p.wd (HN1.out.tr p.since)).2.cell 2
  have qq7 := fun p : KeptW w2 => (HF.out p.wd (HN1.out.tr p.since)).2.cell 3
  have zz0 := qq0 ⟨w2, Kp.refl _ _⟩
  have zz1 := qq1 ⟨w2, Kp.refl _ _⟩
  have zz2 := qq2 ⟨w2, Kp.refl _ _⟩
  have zz3 := qq3 ⟨w2, Kp.refl _ _⟩
  have zz4 := qq4 ⟨w2, Kp.refl _ _⟩
  have zz5 := qq5 ⟨w2, Kp.refl _ _⟩
  have zz6 := qq6 ⟨w2, Kp.refl _ _⟩
  have zz7 := qq7 ⟨w2, Kp.refl _ _⟩
  go_upto_region 6 with (first | (go_at_call 52; ((with_reducible refine (Calls.kept_first (cS _)).mono ?_); rintro e _ ⟨rfl, p, rfl⟩)) | fail)
  obtain ⟨g3, hg1⟩ : ∃ g, p.wd.heap.size = g := ⟨_, rfl⟩
  have hbb := Blk.new_at p.wd 51 #[.int .i64 x1, .int .i64 x2, .int .i64 x3, .int .i64 x4] hg1
  have hn1 := p.since.alloc (.cells #[.int .i64 x1, .int .i64 x2, .int .i64 x3, .int .i64 x4] 51)
  rw [hg1]
  generalize p.wd.alloc (.cells #[.int .i64 x1, .int .i64 x2, .int .i64 x3, .int .i64 x4] 51) = w3 at hbb hn1 ⊢
  have HN2 := Lib.hid (HN1.out.tr hn1)
  have HB0 := Lib.hid (HB0.out.nw hn1)
  have HB1 := Lib.hid (HB1.out.nw hn1)
  have HB2 := Lib.hid hbb
  clear hg1 hbb hn1
  clear qq0 zz0 qq1 zz1 qq2 zz2 qq3 zz3 qq4 zz4 qq5 zz5 qq6 zz6 qq7 zz7
  have qq0 := fun p : KeptW w3 => (HF.out p.wd (HN2.out.tr p.since)).1.cell 0
  have qq1 := fun p : KeptW w3 => (HF.out p.wd (HN2.out.tr p.since)).1.cell 1
  have qq2 := fun p : KeptW w3 => (HF.out p.wd (HN2.out.tr p.since)).1.cell 2
  have qq3 := fun p : KeptW w3 => (HF.out p.wd (HN2.out.tr p.since)).1.cell 3
  have qq4 := fun p : KeptW w3 => (HF.out p.wd (HN2.out.tr p.since)).2.cell 0
  have qq5 := fun p : KeptW w3 => (HF.out p.wd (HN2.out.tr p.since)).2.cell 1
  have qq6 := fun p : KeptW w3 => (HF.out p.wd (HN2.out.tr p.since)).2.cell 2
  have qq7 := fun p : KeptW w3 => (HF.out p.wd (HN2.out.tr p.since)).2.cell 3
  have zz0 := qq0 ⟨w3, Kp.refl _ _⟩
  have zz1 := qq1 ⟨w3, Kp.refl _ _⟩
  have zz2 := qq2 ⟨w3, Kp.refl _ _⟩
  have zz3 := qq3 ⟨w3, Kp.refl _ _⟩
  have zz4 := qq4 ⟨w3, Kp.refl _ _⟩
  have zz5 := qq5 ⟨w3, Kp.refl _ _⟩
  have zz6 := qq6 ⟨w3, Kp.refl _ _⟩
  have zz7 := qq7 ⟨w3, Kp.refl _ _⟩
  go_upto_region 7 with (first | (go_at_call 53; ((with_reducible refine (Calls.kept_first (cT _)).mono ?_); rintro e _ ⟨rfl, p, rfl⟩)) | fail)
  obtain ⟨g4, hg1⟩ : ∃ g, p.wd.heap.size = g := ⟨_, rfl⟩
  have hbb := Blk.new_at p.wd 51 #[.int .i64 x1, .int .i64 x2, .int .i64 x3, .int .i64 x4] hg1
  have hn1 := p.since.alloc (.cells #[.int .i64 x1, .int .i64 x2, .int .i64 x3, .int .i64 x4] 51)
  rw [hg1]
  generalize p.wd.alloc (.cells #[.int .i64 x1, .int .i64 x2, .int .i64 x3, .int .i64 x4] 51) = w4 at hbb hn1 ⊢
  have HN3 := Lib.hid (HN2.out.tr hn1)
  have HB0 := Lib.hid (HB0.out.nw hn1)
  have HB1 := Lib.hid (HB1.out.nw hn1)
  have HB2 := Lib.hid (HB2.out.nw hn1)
  have HB3 := Lib.hid hbb
  clear hg1 hbb hn1
  clear qq0 zz0 qq1 zz1 qq2 zz2 qq3 zz3 qq4 zz4 qq5 zz5 qq6 zz6 qq7 zz7
  have qq0 := fun p : KeptW w4 => (HF.out p.wd (HN3.out.tr p.since)).1.cell 0
  have qq1 := fun p : KeptW w4 => (HF.out p.wd (HN3.out.tr p.since)).1.cell 1
  have qq2 := fun p : KeptW w4 => (HF.out p.wd (HN3.out.tr p.since)).1.cell 2
  have qq3 := fun p : KeptW w4 => (HF.out p.wd (HN3.out.tr p.since)).1.cell 3
  have qq4 := fun p : KeptW w4 => (HF.out p.wd (HN3.out.tr p.since)).2.cell 0
  have qq5 := fun p : KeptW w4 => (HF.out p.wd (HN3.out.tr p.since)).2.cell 1
  have qq6 := fun p : KeptW w4 => (HF.out p.wd (HN3.out.tr p.since)).2.cell 2
  have qq7 := fun p : KeptW w4 => (HF.out p.wd (HN3.out.tr p.since)).2.cell 3
  have qq8 := fun p : KeptW w4 => (HB0.out.kept p).cell 0
  have qq9 := fun p : KeptW w4 => (HB0.out.kept p).cell 1
  have qq10 := fun p : KeptW w4 => (HB0.out.kept p).cell 2
  have qq11 := fun p : KeptW w4 => (HB1.out.kept p).cell 0
  have qq12 := fun p : KeptW w4 => (HB1.out.kept p).cell 1
  have qq13 := fun p : KeptW w4 => (HB1.out.kept p).cell 2
  have qq14 := fun p : KeptW w4 => (HB2.out.kept p).cell 0
  have qq15 := fun p : KeptW w4 => (HB2.out.kept p).cell 1
  have qq16 := fun p : KeptW w4 => (HB2.out.kept p).cell 2
  have qq17 := fun p : KeptW w4 => (HB2.out.kept p).cell 3
  have qq18 := fun p : KeptW w4 => (HB3.out.kept p).cell 0
  have qq19 := fun p : KeptW w4 => (HB3.out.kept p).cell 1
  have qq20 := fun p : KeptW w4 => (HB3.out.kept p).cell 2
  have qq21 := fun p : KeptW w4 => (HB3.out.kept p).cell 3
  have zz0 := qq0 ⟨w4, Kp.refl _ _⟩
  have zz1 := qq1 ⟨w4, Kp.refl _ _⟩
  have zz2 := qq2 ⟨w4, Kp.refl _ _⟩
  have zz3 := qq3 ⟨w4, Kp.refl _ _⟩
  have zz4 := qq4 ⟨w4, Kp.refl _ _⟩
  have zz5 := qq5 ⟨w4, Kp.refl _ _⟩
  have zz6 := qq6 ⟨w4, Kp.refl _ _⟩
  have zz7 := qq7 ⟨w4, Kp.refl _ _⟩
  have zz8 := qq8 ⟨w4, Kp.refl _ _⟩
  have zz9 := qq9 ⟨w4, Kp.refl _ _⟩
  have zz10 := qq10 ⟨w4, Kp.refl _ _⟩
  have zz11 := qq11 ⟨w4, Kp.refl _ _⟩
  have zz12 := qq12 ⟨w4, Kp.refl _ _⟩
  have zz13 := qq13 ⟨w4, Kp.refl _ _⟩
  have zz14 := qq14 ⟨w4, Kp.refl _ _⟩
  have zz15 := qq15 ⟨w4, Kp.refl _ _⟩
  have zz16 := qq16 ⟨w4, Kp.refl _ _⟩
  have zz17 := qq17 ⟨w4, Kp.refl _ _⟩
  have zz18 := qq18 ⟨w4, Kp.refl _ _⟩
  have zz19 := qq19 ⟨w4, Kp.refl _ _⟩
  have zz20 := qq20 ⟨w4, Kp.refl _ _⟩
  have zz21 := qq21 ⟨w4, Kp.refl _ _⟩
  clear zz0 zz1 zz2 zz3 zz4 zz5 zz6 zz7 zz8 zz9 zz10 zz11 zz12 zz13 zz14 zz15 zz16 zz17 zz18 zz19 zz20 zz21
  refine wp_region_kept (Kp.refl _ _) (by assumption) (by kernel_rfl) ?_
  repeat (with_reducible refine wpQuiet_step (fun K hK => ?_); go_simp; first | ((with_reducible refine hK _ ?_); clear hK K) | (with_reducible apply Exists.intro; (with_reducible refine ⟨fun _ => ?_, hK _ ?_⟩); ((first | (go_at_call 54; with_reducible exact Calls.kept_of (c1 _)) | (go_at_call 55; with_reducible exact Calls.kept_of (c2 _)) | (go_at_call 56; with_reducible exact Calls.kept_of (cK _)) | (go_at_call 57; with_reducible exact Calls.kept_of (cL _)) | fail)); clear hK K) | (simp only [undef, reduceCtorEq, if_false]; (with_reducible refine hK _ ?_); clear hK K))
  with_reducible refine wpQuiet_nil ?_
  rintro _ ⟨p, rfl⟩
  go_wp2_with fail
  go_ret
  exact ⟨by simp, (((nw_alloc _ _).alloc _).tr HN3.out).tr p.since⟩
end Go.Proofs.Ytgmojgeclljajaa.W
