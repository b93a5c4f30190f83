/-
  seg: At: the only point that two segments have in common. No condition.
-/
import Derived.Test.YtahamffngmdjfaaGSA
namespace Go.Proofs.Ytahamffngmdjfaa.W
open Go.RowKit Go.Proofs.Ytahamffngmdjfaa.V Go.Proofs.Ytahamffngmdjfaa.G

theorem valid_lm {ax ay bx bz : Int} (h : validS ax ay bx bz = true) : Lm ax ay ∧ Lm bx bz := by
  unfold validS withinV at h
  rw [show w64 (-4000) = -4000 from w64_id ⟨by omega, by omega⟩] at h
  simp at h
  unfold Lm
  omega
theorem turn_lm {ax ay bx bz cx cy : Int} (ha : Lm ax ay) (hb : Lm bx bz) (hc : Lm cx cy) : turnV ax ay bx bz cx cy = sgn (crs ax ay bx bz cx cy) := by
  unfold Lm at ha hb hc
  unfold turnV crs
  have h1 := abs_le_mul (x := bx - ax) (y := cy - ay) (A := 8000) (B := 8000) (by omega) (by omega)
  have h2 := abs_le_mul (x := bz - ay) (y := cx - ax) (A := 8000) (B := 8000) (by omega) (by omega)
  rw [w64_id ⟨by omega, by omega⟩]
theorem part_lm {ax ay bx bz cx cy dx dy : Int} (ha : Lm ax ay) (hb : Lm bx bz) (hc : Lm cx cy) (hd : Lm dx dy) : partS ax ay bx bz cx cy dx dy = true ↔ Prt ax ay bx bz cx cy dx dy := by
  unfold partS Prt
  rw [turn_lm ha hb hc, turn_lm ha hb hd, decide_eq_true_eq]
  generalize crs ax ay bx bz cx cy = x
  generalize crs ax ay bx bz dx dy = y
  rcases sgn_cases x with ⟨h, e⟩ | ⟨h, e⟩ | ⟨h, e⟩ <;> rcases sgn_cases y with ⟨g, k⟩ | ⟨g, k⟩ | ⟨g, k⟩ <;> rw [e, k]
  · exact ⟨fun h' => absurd h' (by decide), fun h' => by have := Int.mul_pos_of_neg_of_neg h g; omega⟩
  · subst g; simp
  · exact ⟨fun _ => Int.mul_neg_of_neg_of_pos h g, fun _ => by decide⟩
  · subst h; simp
  · subst h; simp
  · subst h; simp
  · exact ⟨fun _ => Int.mul_neg_of_pos_of_neg h g, fun _ => by decide⟩
  · subst g; simp
  · exact ⟨fun h' => absurd h' (by decide), fun h' => by have := Int.mul_pos h g; omega⟩
theorem kind_two {ax ay bx bz cx cy dx dy : Int} (h : kindS ax ay bx bz cx cy dx dy = 2) : (Lm ax ay ∧ Lm bx bz) ∧ (Lm cx cy ∧ Lm dx dy) ∧ Prt ax ay bx bz cx cy dx dy ∧ Prt cx cy dx dy ax ay bx bz ∧ comS ax ay bx bz cx cy dx dy = [] := by
  unfold kindS at h
  split at h
  · rename_i hv
    simp only [Bool.and_eq_true] at hv
    have v1 := valid_lm hv.1
    have v2 := valid_lm hv.2
    split at h
    · rename_i he
      split at h
      · rename_i hp
        simp only [Bool.and_eq_true] at hp
        exact ⟨v1, v2, (part_lm v1.1 v1.2 v2.1 v2.2).1 hp.1, (part_lm v2.1 v2.2 v1.1 v1.2).1 hp.2, by simpa using he⟩
      · omega
    · split at h <;> omega
  · omega
def atS (ax ay bx bz cx cy dx dy : Int) : Int × Int × Int := if kindS ax ay bx bz cx cy dx dy = 1 then ((partsS ax ay bx bz cx cy dx dy).1.1, (partsS ax ay bx bz cx cy dx dy).1.2, 1) else if kindS ax ay bx bz cx cy dx dy = 2 then crossS ax ay bx bz cx cy dx dy else (0, 0, 0)
def atV (ax ay bx bz cx cy dx dy : Int) : Value := .tuple #[pV (atS ax ay bx bz cx cy dx dy).1 (atS ax ay bx bz cx cy dx dy).2.1 (atS ax ay bx bz cx cy dx dy).2.2, .bool (kindS ax ay bx bz cx cy dx dy == 1 || kindS ax ay bx bz cx cy dx dy == 2)]

set_option maxRecDepth 100000 in
set_option maxHeartbeats 3200000 in
theorem at_any (ax ay bx bz cx cy dx dy : Int) (w : World) : Calls Try.prog 52 #[sV ax ay bx bz, sV cx cy dx dy] w fun e w' => e = .returned (atV ax ay bx bz cx cy dx dy) ∧ Nw w w' := by
  have c1 := fun w1 => meet_any ax ay bx bz cx cy dx dy w1
  have c2 := fun (h : kindS ax ay bx bz cx cy dx dy = 2) w1 => crossing_any ax ay bx bz cx cy dx dy (kind_two h).1.1 (kind_two h).1.2 (kind_two h).2.1.1 (kind_two h).2.1.2 (prt_den (kind_two h).2.2.1) w1
  have c3 := fun w1 => pointOf_any (partsS ax ay bx bz cx cy dx dy).1.1 (partsS ax ay bx bz cx cy dx dy).1.2 w1
  unfold meetV at c1
  unfold atV atS
  generalize kindS ax ay bx bz cx cy dx dy = k at *
  generalize partsS ax ay bx bz cx cy dx dy = ps at *
  generalize crossS ax ay bx bz cx cy dx dy = cs at *
  obtain ⟨⟨f1, f2⟩, ⟨l1, l2⟩⟩ := ps
  obtain ⟨r1, r2, r3⟩ := cs
  have hF : ∀ w', Nw (((w.alloc (.cells #[.int .i64 ax, .int .i64 ay, .int .i64 bx, .int .i64 bz] 48)).alloc (.cells #[.int .i64 cx, .int .i64 cy, .int .i64 dx, .int .i64 dy] 48)).alloc (.cells #[.int .i64 0, .int .i64 0, .int .i64 0] 50)) w' → Blk w' w.heap.size 48 #[.int .i64 ax, .int .i64 ay, .int .i64 bx, .int .i64 bz] ∧ Blk w' (w.heap.size + 1) 48 #[.int .i64 cx, .int .i64 cy, .int .i64 dx, .int .i64 dy] ∧ Blk w' (w.heap.size + 1 + 1) 50 #[.int .i64 0, .int .i64 0, .int .i64 0] := fun w' h => ⟨(((Blk.new_at w 48 #[.int .i64 ax, .int .i64 ay, .int .i64 bx, .int .i64 bz] (n := w.heap.size) rfl).alloc _).alloc _).kp h id, ((Blk.new_at _ 48 #[.int .i64 cx, .int .i64 cy, .int .i64 dx, .int .i64 dy] (n := w.heap.size + 1) (by simp)).alloc _).kp h id, (Blk.new_at _ 50 #[.int .i64 0, .int .i64 0, .int .i64 0] (n := w.heap.size + 1 + 1) (by simp)).kp h id⟩
  have HF := Lib.hid hF
  have HW := Lib.hid (show Nw w (((w.alloc (.cells #[.int .i64 ax, .int .i64 ay, .int .i64 bx, .int .i64 bz] 48)).alloc (.cells #[.int .i64 cx, .int .i64 cy, .int .i64 dx, .int .i64 dy] 48)).alloc (.cells #[.int .i64 0, .int .i64 0, .int .i64 0] 50)) from ((nw_alloc _ _).alloc _).alloc _)
  have HRL := Lib.hid (show w.heap.size ≤ w.heap.size + 1 + 1 from by omega)
  clear hF
  obtain ⟨b1, hb1⟩ : ∃ b, (k == 1) = b := ⟨_, rfl⟩
  obtain ⟨b2, hb2⟩ : ∃ b, (k == 2) = b := ⟨_, rfl⟩
  have start : (if k = 1 then (f1, f2, 1) else if k = 2 then (r1, r2, r3) else (0, 0, 0)) = (if b1 then (f1, f2, 1) else if b2 then (r1, r2, r3) else ((0, 0, 0) : Int × Int × Int)) := by
    subst hb1 hb2
    simp
  rw [start]
  clear start
  rw [hb1, hb2]
  go_enter Try.func52, Try.ntmps52
  go_upto_region 2 with (first | (go_at_call 101; ((with_reducible refine (Calls.kept_first (c1 _)).mono ?_); rintro e _ ⟨rfl, p, rfl⟩)) | fail)
  obtain ⟨g1, hg1⟩ : ∃ g, p.wd.heap.size = g := ⟨_, rfl⟩
  have hbb := Blk.new_at p.wd 48 #[.int .i64 f1, .int .i64 f2, .int .i64 l1, .int .i64 l2] hg1
  have hn1 := p.since.alloc (.cells #[.int .i64 f1, .int .i64 f2, .int .i64 l1, .int .i64 l2] 48)
  rw [hg1]
  generalize p.wd.alloc (.cells #[.int .i64 f1, .int .i64 f2, .int .i64 l1, .int .i64 l2] 48) = w1 at hbb hn1 ⊢
  have HN1 := Lib.hid hn1
  have HBB := Lib.hid hbb
  clear hg1 hn1 hbb
  have q0 := fun p : KeptW w1 => (HF.out p.wd (HN1.out.tr p.since)).1.cell 0
  have z0 := q0 ⟨w1, Kp.refl _ _⟩
  have q1 := fun p : KeptW w1 => (HF.out p.wd (HN1.out.tr p.since)).1.cell 1
  have z1 := q1 ⟨w1, Kp.refl _ _⟩
  have q2 := fun p : KeptW w1 => (HF.out p.wd (HN1.out.tr p.since)).1.cell 2
  have z2 := q2 ⟨w1, Kp.refl _ _⟩
  have q3 := fun p : KeptW w1 => (HF.out p.wd (HN1.out.tr p.since)).1.cell 3
  have z3 := q3 ⟨w1, Kp.refl _ _⟩
  have q4 := fun p : KeptW w1 => (HF.out p.wd (HN1.out.tr p.since)).2.1.cell 0
  have z4 := q4 ⟨w1, Kp.refl _ _⟩
  have q5 := fun p : KeptW w1 => (HF.out p.wd (HN1.out.tr p.since)).2.1.cell 1
  have z5 := q5 ⟨w1, Kp.refl _ _⟩
  have q6 := fun p : KeptW w1 => (HF.out p.wd (HN1.out.tr p.since)).2.1.cell 2
  have z6 := q6 ⟨w1, Kp.refl _ _⟩
  have q7 := fun p : KeptW w1 => (HF.out p.wd (HN1.out.tr p.since)).2.1.cell 3
  have z7 := q7 ⟨w1, Kp.refl _ _⟩
  have q8 := fun p : KeptW w1 => (HBB.out.kept p).cell 0
  have z8 := q8 ⟨w1, Kp.refl _ _⟩
  have q9 := fun p : KeptW w1 => (HBB.out.kept p).cell 1
  have z9 := q9 ⟨w1, Kp.refl _ _⟩
  have q10 := fun p : KeptW w1 => (HBB.out.kept p).cell 2
  have z10 := q10 ⟨w1, Kp.refl _ _⟩
  have q11 := fun p : KeptW w1 => (HBB.out.kept p).cell 3
  have z11 := q11 ⟨w1, Kp.refl _ _⟩
  have s0 := fun p : KeptW w1 => (HF.out p.wd (HN1.out.tr p.since)).2.2.cell 0
  have t0 := s0 ⟨w1, Kp.refl _ _⟩
  have y0 := fun p : KeptW w1 => (HF.out p.wd (HN1.out.tr p.since)).2.2.frozen 0
  have u0 := y0 ⟨w1, Kp.refl _ _⟩
  have s1 := fun p : KeptW w1 => (HF.out p.wd (HN1.out.tr p.since)).2.2.cell 1
  have t1 := s1 ⟨w1, Kp.refl _ _⟩
  have y1 := fun p : KeptW w1 => (HF.out p.wd (HN1.out.tr p.since)).2.2.frozen 1
  have u1 := y1 ⟨w1, Kp.refl _ _⟩
  have s2 := fun p : KeptW w1 => (HF.out p.wd (HN1.out.tr p.since)).2.2.cell 2
  have t2 := s2 ⟨w1, Kp.refl _ _⟩
  have y2 := fun p : KeptW w1 => (HF.out p.wd (HN1.out.tr p.since)).2.2.frozen 2
  have u2 := y2 ⟨w1, Kp.refl _ _⟩
  cases b1
  · cases b2
    · go_wp2_with fail
      generalize hw9 : World.setCell _ _ _ = w9
      have h9 : Blk w9 (w.heap.size + 1 + 1) 50 #[.int .i64 0, .int .i64 0, .int .i64 0] := by rw [← hw9]; exact ((((HF.out _ HN1.out).2.2).set_ 0 _).set_ 1 _).set_ 2 _
      have hn9 : Nw w w9 := by rw [← hw9]; exact (((HW.out.tr HN1.out).new HRL.out _ _).new HRL.out _ _).new HRL.out _ _
      obtain ⟨x0, x1, x2, _, _, _⟩ := h9.three
      exact bodyPost_ret (v := .tuple #[pV 0 0 0, .bool false]) (by simp [results, Try.results52, go_sem, x0, x1, x2]) rfl ⟨rfl, hn9⟩
    · have c2 := c2 (by simpa using hb2)
      go_wp2_with (first | (go_at_call 102; ((with_reducible refine (Calls.kept_first (c2 _)).mono ?_); rintro e _ ⟨rfl, p, rfl⟩)) | fail)
      generalize hw9 : World.setCell _ _ _ = w9
      have h9 : Blk w9 (w.heap.size + 1 + 1) 50 #[.int .i64 r1, .int .i64 r2, .int .i64 r3] := by rw [← hw9]; exact ((((HF.out _ (HN1.out.tr p.since)).2.2).set_ 0 _).set_ 1 _).set_ 2 _
      have hn9 : Nw w w9 := by rw [← hw9]; exact (((HW.out.tr (HN1.out.tr p.since)).new HRL.out _ _).new HRL.out _ _).new HRL.out _ _
      obtain ⟨x0, x1, x2, _, _, _⟩ := h9.three
      exact bodyPost_ret (v := .tuple #[pV r1 r2 r3, .bool true]) (by simp [results, Try.results52, go_sem, x0, x1, x2]) rfl ⟨rfl, hn9⟩
  · cases b2
    · go_wp2_with (first | (go_at_call 66; ((with_reducible refine (Calls.kept_first (c3 _)).mono ?_); rintro e _ ⟨rfl, p, rfl⟩)) | fail)
      generalize hw9 : World.setCell _ _ _ = w9
      have h9 : Blk w9 (w.heap.size + 1 + 1) 50 #[.int .i64 f1, .int .i64 f2, .int .i64 1] := by rw [← hw9]; exact ((((HF.out _ (HN1.out.tr p.since)).2.2).set_ 0 _).set_ 1 _).set_ 2 _
      have hn9 : Nw w w9 := by rw [← hw9]; exact (((HW.out.tr (HN1.out.tr p.since)).new HRL.out _ _).new HRL.out _ _).new HRL.out _ _
      obtain ⟨x0, x1, x2, _, _, _⟩ := h9.three
      exact bodyPost_ret (v := .tuple #[pV f1 f2 1, .bool true]) (by simp [results, Try.results52, go_sem, x0, x1, x2]) rfl ⟨rfl, hn9⟩
    · exact absurd ((by simpa using hb1 : k = 1).symm.trans (by simpa using hb2 : k = 2)) (by decide)

end Go.Proofs.Ytahamffngmdjfaa.W
