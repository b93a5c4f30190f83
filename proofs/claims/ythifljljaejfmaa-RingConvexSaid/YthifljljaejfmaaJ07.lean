/-
  seg: meet, Meet and Share: how two segments meet, and what they share. No condition.
-/
import Derived.Test.YthifljljaejfmaaJ06
namespace Go.Proofs.Ythifljljaejfmaa.W
open Go.RowKit Go.Proofs.Ythifljljaejfmaa.V

def kindS (ax ay bx bz cx cy dx dy : Int) : Int := if validS ax ay bx bz && validS cx cy dx dy then (if (comS ax ay bx bz cx cy dx dy).isEmpty then (if partS ax ay bx bz cx cy dx dy && partS cx cy dx dy ax ay bx bz then 2 else 0) else if firstV (comS ax ay bx bz cx cy dx dy) = lastV (comS ax ay bx bz cx cy dx dy) then 1 else 3) else 0
def partsS (ax ay bx bz cx cy dx dy : Int) : (Int × Int) × (Int × Int) := if validS ax ay bx bz && validS cx cy dx dy && !(comS ax ay bx bz cx cy dx dy).isEmpty then (firstV (comS ax ay bx bz cx cy dx dy), lastV (comS ax ay bx bz cx cy dx dy)) else ((0, 0), (0, 0))
def meetV (ax ay bx bz cx cy dx dy : Int) : Value := .tuple #[.int .i64 (kindS ax ay bx bz cx cy dx dy), sV (partsS ax ay bx bz cx cy dx dy).1.1 (partsS ax ay bx bz cx cy dx dy).1.2 (partsS ax ay bx bz cx cy dx dy).2.1 (partsS ax ay bx bz cx cy dx dy).2.2]
def shareS (ax ay bx bz cx cy dx dy : Int) : (Int × Int) × (Int × Int) := if kindS ax ay bx bz cx cy dx dy = 3 then partsS ax ay bx bz cx cy dx dy else ((0, 0), (0, 0))

set_option maxRecDepth 100000 in
set_option maxHeartbeats 6400000 in
theorem meet_any (ax ay bx bz cx cy dx dy : Int) (w : World) : Calls Try.prog 48 #[sV ax ay bx bz, sV cx cy dx dy] w fun e w' => e = .returned (meetV ax ay bx bz cx cy dx dy) ∧ Nw w w' := by
  have hmix := mixed7
  have c1 := fun w1 => valid_any ax ay bx bz w1
  have c2 := fun w1 => valid_any cx cy dx dy w1
  have c3 := fun w1 => sharedEnds_any ax ay bx bz cx cy dx dy w1
  have c4 := fun w1 => parts_any ax ay bx bz cx cy dx dy w1
  have c5 := fun w1 => parts_any cx cy dx dy ax ay bx bz w1
  have HV := Lib.hid (show meetV ax ay bx bz cx cy dx dy = if validS ax ay bx bz && validS cx cy dx dy then (if (comS ax ay bx bz cx cy dx dy).isEmpty then (.tuple #[.int .i64 (if partS ax ay bx bz cx cy dx dy && partS cx cy dx dy ax ay bx bz then 2 else 0), sV 0 0 0 0]) else .tuple #[.int .i64 (if firstV (comS ax ay bx bz cx cy dx dy) = lastV (comS ax ay bx bz cx cy dx dy) then 1 else 3), sV (firstV (comS ax ay bx bz cx cy dx dy)).1 (firstV (comS ax ay bx bz cx cy dx dy)).2 (lastV (comS ax ay bx bz cx cy dx dy)).1 (lastV (comS ax ay bx bz cx cy dx dy)).2]) else .tuple #[.int .i64 0, sV 0 0 0 0] by
    unfold meetV kindS partsS
    cases validS ax ay bx bz && validS cx cy dx dy <;> cases (comS ax ay bx bz cx cy dx dy).isEmpty <;> rfl)
  have hF : ∀ w', Nw (((w.alloc (.cells #[.int .i64 ax, .int .i64 ay, .int .i64 bx, .int .i64 bz] 47)).alloc (.cells #[.int .i64 cx, .int .i64 cy, .int .i64 dx, .int .i64 dy] 47)).alloc (.cells #[.int .i64 0, .int .i64 0, .int .i64 0, .int .i64 0] 47)) w' → Blk w' w.heap.size 47 #[.int .i64 ax, .int .i64 ay, .int .i64 bx, .int .i64 bz] ∧ Blk w' (w.heap.size + 1) 47 #[.int .i64 cx, .int .i64 cy, .int .i64 dx, .int .i64 dy] ∧ Blk w' (w.heap.size + 1 + 1) 47 #[.int .i64 0, .int .i64 0, .int .i64 0, .int .i64 0] := fun w' h => ⟨(((Blk.new_at w 47 #[.int .i64 ax, .int .i64 ay, .int .i64 bx, .int .i64 bz] (n := w.heap.size) rfl).alloc _).alloc _).kp h id, ((Blk.new_at _ 47 #[.int .i64 cx, .int .i64 cy, .int .i64 dx, .int .i64 dy] (n := w.heap.size + 1) (by simp)).alloc _).kp h id, (Blk.new_at _ 47 #[.int .i64 0, .int .i64 0, .int .i64 0, .int .i64 0] (n := w.heap.size + 1 + 1) (by simp)).kp h id⟩
  have HF := Lib.hid hF
  have HW := Lib.hid (show Nw w (((w.alloc (.cells #[.int .i64 ax, .int .i64 ay, .int .i64 bx, .int .i64 bz] 47)).alloc (.cells #[.int .i64 cx, .int .i64 cy, .int .i64 dx, .int .i64 dy] 47)).alloc (.cells #[.int .i64 0, .int .i64 0, .int .i64 0, .int .i64 0] 47)) from ((nw_alloc _ _).alloc _).alloc _)
  have HN0 := Lib.hid (Kp.refl (fun _ => False) (((w.alloc (.cells #[.int .i64 ax, .int .i64 ay, .int .i64 bx, .int .i64 bz] 47)).alloc (.cells #[.int .i64 cx, .int .i64 cy, .int .i64 dx, .int .i64 dy] 47)).alloc (.cells #[.int .i64 0, .int .i64 0, .int .i64 0, .int .i64 0] 47)))
  have HRL := Lib.hid (show w.heap.size ≤ w.heap.size + 1 + 1 from by omega)
  rw [shared_end] at c3
  clear hF
  have q0 := fun p : KeptW (((w.alloc (.cells #[.int .i64 ax, .int .i64 ay, .int .i64 bx, .int .i64 bz] 47)).alloc (.cells #[.int .i64 cx, .int .i64 cy, .int .i64 dx, .int .i64 dy] 47)).alloc (.cells #[.int .i64 0, .int .i64 0, .int .i64 0, .int .i64 0] 47)) => (HF.out p.wd p.since).1.cell 0
  have q1 := fun p : KeptW (((w.alloc (.cells #[.int .i64 ax, .int .i64 ay, .int .i64 bx, .int .i64 bz] 47)).alloc (.cells #[.int .i64 cx, .int .i64 cy, .int .i64 dx, .int .i64 dy] 47)).alloc (.cells #[.int .i64 0, .int .i64 0, .int .i64 0, .int .i64 0] 47)) => (HF.out p.wd p.since).1.cell 1
  have q2 := fun p : KeptW (((w.alloc (.cells #[.int .i64 ax, .int .i64 ay, .int .i64 bx, .int .i64 bz] 47)).alloc (.cells #[.int .i64 cx, .int .i64 cy, .int .i64 dx, .int .i64 dy] 47)).alloc (.cells #[.int .i64 0, .int .i64 0, .int .i64 0, .int .i64 0] 47)) => (HF.out p.wd p.since).1.cell 2
  have q3 := fun p : KeptW (((w.alloc (.cells #[.int .i64 ax, .int .i64 ay, .int .i64 bx, .int .i64 bz] 47)).alloc (.cells #[.int .i64 cx, .int .i64 cy, .int .i64 dx, .int .i64 dy] 47)).alloc (.cells #[.int .i64 0, .int .i64 0, .int .i64 0, .int .i64 0] 47)) => (HF.out p.wd p.since).1.cell 3
  have q4 := fun p : KeptW (((w.alloc (.cells #[.int .i64 ax, .int .i64 ay, .int .i64 bx, .int .i64 bz] 47)).alloc (.cells #[.int .i64 cx, .int .i64 cy, .int .i64 dx, .int .i64 dy] 47)).alloc (.cells #[.int .i64 0, .int .i64 0, .int .i64 0, .int .i64 0] 47)) => (HF.out p.wd p.since).2.1.cell 0
  have q5 := fun p : KeptW (((w.alloc (.cells #[.int .i64 ax, .int .i64 ay, .int .i64 bx, .int .i64 bz] 47)).alloc (.cells #[.int .i64 cx, .int .i64 cy, .int .i64 dx, .int .i64 dy] 47)).alloc (.cells #[.int .i64 0, .int .i64 0, .int .i64 0, .int .i64 0] 47)) => (HF.out p.wd p.since).2.1.cell 1
  have q6 := fun p : KeptW (((w.alloc (.cells #[.int .i64 ax, .int .i64 ay, .int .i64 bx, .int .i64 bz] 47)).alloc (.cells #[.int .i64 cx, .int .i64 cy, .int .i64 dx, .int .i64 dy] 47)).alloc (.cells #[.int .i64 0, .int .i64 0, .int .i64 0, .int .i64 0] 47)) => (HF.out p.wd p.since).2.1.cell 2
  have q7 := fun p : KeptW (((w.alloc (.cells #[.int .i64 ax, .int .i64 ay, .int .i64 bx, .int .i64 bz] 47)).alloc (.cells #[.int .i64 cx, .int .i64 cy, .int .i64 dx, .int .i64 dy] 47)).alloc (.cells #[.int .i64 0, .int .i64 0, .int .i64 0, .int .i64 0] 47)) => (HF.out p.wd p.since).2.1.cell 3
  have y0 := fun p : KeptW (((w.alloc (.cells #[.int .i64 ax, .int .i64 ay, .int .i64 bx, .int .i64 bz] 47)).alloc (.cells #[.int .i64 cx, .int .i64 cy, .int .i64 dx, .int .i64 dy] 47)).alloc (.cells #[.int .i64 0, .int .i64 0, .int .i64 0, .int .i64 0] 47)) => (HF.out p.wd (HN0.out.tr p.since)).2.2.frozen 0
  have s0 := fun p : KeptW (((w.alloc (.cells #[.int .i64 ax, .int .i64 ay, .int .i64 bx, .int .i64 bz] 47)).alloc (.cells #[.int .i64 cx, .int .i64 cy, .int .i64 dx, .int .i64 dy] 47)).alloc (.cells #[.int .i64 0, .int .i64 0, .int .i64 0, .int .i64 0] 47)) => (HF.out p.wd (HN0.out.tr p.since)).2.2.cell 0
  have y1 := fun p : KeptW (((w.alloc (.cells #[.int .i64 ax, .int .i64 ay, .int .i64 bx, .int .i64 bz] 47)).alloc (.cells #[.int .i64 cx, .int .i64 cy, .int .i64 dx, .int .i64 dy] 47)).alloc (.cells #[.int .i64 0, .int .i64 0, .int .i64 0, .int .i64 0] 47)) => (HF.out p.wd (HN0.out.tr p.since)).2.2.frozen 1
  have s1 := fun p : KeptW (((w.alloc (.cells #[.int .i64 ax, .int .i64 ay, .int .i64 bx, .int .i64 bz] 47)).alloc (.cells #[.int .i64 cx, .int .i64 cy, .int .i64 dx, .int .i64 dy] 47)).alloc (.cells #[.int .i64 0, .int .i64 0, .int .i64 0, .int .i64 0] 47)) => (HF.out p.wd (HN0.out.tr p.since)).2.2.cell 1
  have y2 := fun p : KeptW (((w.alloc (.cells #[.int .i64 ax, .int .i64 ay, .int .i64 bx, .int .i64 bz] 47)).alloc (.cells #[.int .i64 cx, .int .i64 cy, .int .i64 dx, .int .i64 dy] 47)).alloc (.cells #[.int .i64 0, .int .i64 0, .int .i64 0, .int .i64 0] 47)) => (HF.out p.wd (HN0.out.tr p.since)).2.2.frozen 2
  have s2 := fun p : KeptW (((w.alloc (.cells #[.int .i64 ax, .int .i64 ay, .int .i64 bx, .int .i64 bz] 47)).alloc (.cells #[.int .i64 cx, .int .i64 cy, .int .i64 dx, .int .i64 dy] 47)).alloc (.cells #[.int .i64 0, .int .i64 0, .int .i64 0, .int .i64 0] 47)) => (HF.out p.wd (HN0.out.tr p.since)).2.2.cell 2
  have y3 := fun p : KeptW (((w.alloc (.cells #[.int .i64 ax, .int .i64 ay, .int .i64 bx, .int .i64 bz] 47)).alloc (.cells #[.int .i64 cx, .int .i64 cy, .int .i64 dx, .int .i64 dy] 47)).alloc (.cells #[.int .i64 0, .int .i64 0, .int .i64 0, .int .i64 0] 47)) => (HF.out p.wd (HN0.out.tr p.since)).2.2.frozen 3
  have s3 := fun p : KeptW (((w.alloc (.cells #[.int .i64 ax, .int .i64 ay, .int .i64 bx, .int .i64 bz] 47)).alloc (.cells #[.int .i64 cx, .int .i64 cy, .int .i64 dx, .int .i64 dy] 47)).alloc (.cells #[.int .i64 0, .int .i64 0, .int .i64 0, .int .i64 0] 47)) => (HF.out p.wd (HN0.out.tr p.since)).2.2.cell 3
  generalize meetV ax ay bx bz cx cy dx dy = mv at *
  generalize validS ax ay bx bz = va at *
  generalize validS cx cy dx dy = vb at *
  generalize partS ax ay bx bz cx cy dx dy = pa at *
  generalize partS cx cy dx dy ax ay bx bz = pb at *
  generalize comS ax ay bx bz cx cy dx dy = L at *
  cases va
  · go_enter Try.func48, Try.ntmps48
    go_wp2_with (first | (go_at_call 52; ((with_reducible refine (Calls.kept_first (c1 _)).mono ?_); rintro e _ ⟨rfl, p, rfl⟩)) | (go_at_call 52; ((with_reducible refine (Calls.kept_of (c2 _)).mono ?_); rintro e _ ⟨rfl, p, rfl⟩)) | fail)
    generalize hw9 : World.setCell _ _ _ = w9
    have h9 : Blk w9 (w.heap.size + 1 + 1) 47 #[.int .i64 0, .int .i64 0, .int .i64 0, .int .i64 0] := by rw [← hw9]; exact (((HF.out _ p.since).2.2).lay4a _ _).lay4b _ _
    have hn9 : Nw w w9 := by rw [← hw9]; exact ((((HW.out.tr p.since).new HRL.out _ _).new HRL.out _ _).new HRL.out _ _).new HRL.out _ _
    obtain ⟨x0, x1, x2, x3, _, _, _, _⟩ := h9.four
    exact bodyPost_ret (v := .tuple #[.int .i64 0, sV 0 0 0 0]) (by simp [results, Try.results48, go_sem, x0, x1, x2, x3]) rfl ⟨by rw [HV.out]; rfl, by first | exact hn9 | exact hn9.drew⟩
  · cases vb
    · go_enter Try.func48, Try.ntmps48
      go_wp2_with (first | (go_at_call 52; ((with_reducible refine (Calls.kept_first (c1 _)).mono ?_); rintro e _ ⟨rfl, p, rfl⟩)) | (go_at_call 52; ((with_reducible refine (Calls.kept_of (c2 _)).mono ?_); rintro e _ ⟨rfl, p, rfl⟩)) | fail)
      generalize hw9 : World.setCell _ _ _ = w9
      have h9 : Blk w9 (w.heap.size + 1 + 1) 47 #[.int .i64 0, .int .i64 0, .int .i64 0, .int .i64 0] := by rw [← hw9]; exact (((HF.out _ p.since).2.2).lay4a _ _).lay4b _ _
      have hn9 : Nw w w9 := by rw [← hw9]; exact ((((HW.out.tr p.since).new HRL.out _ _).new HRL.out _ _).new HRL.out _ _).new HRL.out _ _
      obtain ⟨x0, x1, x2, x3, _, _, _, _⟩ := h9.four
      exact bodyPost_ret (v := .tuple #[.int .i64 0, sV 0 0 0 0]) (by simp [results, Try.results48, go_sem, x0, x1, x2, x3]) rfl ⟨by rw [HV.out]; rfl, by first | exact hn9 | exact hn9.drew⟩
    · obtain ⟨⟨f1, f2⟩, hf⟩ : ∃ x, firstV L = x := ⟨_, rfl⟩
      obtain ⟨⟨l1, l2⟩, hl⟩ : ∃ x, lastV L = x := ⟨_, rfl⟩
      obtain ⟨em, hem⟩ : ∃ x, L.isEmpty = x := ⟨_, rfl⟩
      rw [hf, hl, hem] at c3 HV
      clear hf hl hem L
      go_enter Try.func48, Try.ntmps48
      go_upto_region 4 with (first | (go_at_call 52; ((with_reducible refine (Calls.kept_first (c1 _)).mono ?_); rintro e _ ⟨rfl, p, rfl⟩)) | (go_at_call 52; ((with_reducible refine (Calls.kept_of (c2 _)).mono ?_); rintro e _ ⟨rfl, p, rfl⟩)) | (go_at_call 53; ((with_reducible refine (Calls.kept_of (c3 _)).mono ?_); rintro e _ ⟨rfl, p, rfl⟩)) | fail)
      obtain ⟨g1, hg1⟩ : ∃ g, p.wd.heap.size = g := ⟨_, rfl⟩
      have hb1 := Blk.new_at p.wd 47 #[.int .i64 f1, .int .i64 f2, .int .i64 l1, .int .i64 l2] hg1
      have hn1 := p.since.alloc (.cells #[.int .i64 f1, .int .i64 f2, .int .i64 l1, .int .i64 l2] 47)
      rw [hg1]
      generalize p.wd.alloc (.cells #[.int .i64 f1, .int .i64 f2, .int .i64 l1, .int .i64 l2] 47) = w1 at hb1 hn1 ⊢
      have HN0 := Lib.hid hn1
      have HB := Lib.hid hb1
      clear hb1 hn1 hg1 q0 q1 q2 q3 q4 q5 q6 q7 y0 y1 y2 y3 s0 s1 s2 s3
      have q0 := fun p : KeptW w1 => (HF.out p.wd (HN0.out.tr p.since)).1.cell 0
      have z0 := q0 ⟨w1, Kp.refl _ _⟩
      have q1 := fun p : KeptW w1 => (HF.out p.wd (HN0.out.tr p.since)).1.cell 1
      have z1 := q1 ⟨w1, Kp.refl _ _⟩
      have q2 := fun p : KeptW w1 => (HF.out p.wd (HN0.out.tr p.since)).1.cell 2
      have z2 := q2 ⟨w1, Kp.refl _ _⟩
      have q3 := fun p : KeptW w1 => (HF.out p.wd (HN0.out.tr p.since)).1.cell 3
      have z3 := q3 ⟨w1, Kp.refl _ _⟩
      have q4 := fun p : KeptW w1 => (HF.out p.wd (HN0.out.tr p.since)).2.1.cell 0
      have z4 := q4 ⟨w1, Kp.refl _ _⟩
      have q5 := fun p : KeptW w1 => (HF.out p.wd (HN0.out.tr p.since)).2.1.cell 1
      have z5 := q5 ⟨w1, Kp.refl _ _⟩
      have q6 := fun p : KeptW w1 => (HF.out p.wd (HN0.out.tr p.since)).2.1.cell 2
      have z6 := q6 ⟨w1, Kp.refl _ _⟩
      have q7 := fun p : KeptW w1 => (HF.out p.wd (HN0.out.tr p.since)).2.1.cell 3
      have z7 := q7 ⟨w1, Kp.refl _ _⟩
      have y0 := fun p : KeptW w1 => (HF.out p.wd (HN0.out.tr p.since)).2.2.frozen 0
      have r0 := y0 ⟨w1, Kp.refl _ _⟩
      have s0 := fun p : KeptW w1 => (HF.out p.wd (HN0.out.tr p.since)).2.2.cell 0
      have t0 := s0 ⟨w1, Kp.refl _ _⟩
      have y1 := fun p : KeptW w1 => (HF.out p.wd (HN0.out.tr p.since)).2.2.frozen 1
      have r1 := y1 ⟨w1, Kp.refl _ _⟩
      have s1 := fun p : KeptW w1 => (HF.out p.wd (HN0.out.tr p.since)).2.2.cell 1
      have t1 := s1 ⟨w1, Kp.refl _ _⟩
      have y2 := fun p : KeptW w1 => (HF.out p.wd (HN0.out.tr p.since)).2.2.frozen 2
      have r2 := y2 ⟨w1, Kp.refl _ _⟩
      have s2 := fun p : KeptW w1 => (HF.out p.wd (HN0.out.tr p.since)).2.2.cell 2
      have t2 := s2 ⟨w1, Kp.refl _ _⟩
      have y3 := fun p : KeptW w1 => (HF.out p.wd (HN0.out.tr p.since)).2.2.frozen 3
      have r3 := y3 ⟨w1, Kp.refl _ _⟩
      have s3 := fun p : KeptW w1 => (HF.out p.wd (HN0.out.tr p.since)).2.2.cell 3
      have t3 := s3 ⟨w1, Kp.refl _ _⟩
      have q8 := fun p : KeptW w1 => (HB.out.kept p).cell 0
      have z8 := q8 ⟨w1, Kp.refl _ _⟩
      have q9 := fun p : KeptW w1 => (HB.out.kept p).cell 1
      have z9 := q9 ⟨w1, Kp.refl _ _⟩
      have q10 := fun p : KeptW w1 => (HB.out.kept p).cell 2
      have z10 := q10 ⟨w1, Kp.refl _ _⟩
      have q11 := fun p : KeptW w1 => (HB.out.kept p).cell 3
      have z11 := q11 ⟨w1, Kp.refl _ _⟩
      cases em
      · have hq := fun w1 => eql_vecg f1 f2 l1 l2 w1
        obtain ⟨b, hb⟩ : ∃ b, (f1 == l1 && f2 == l2) = b := ⟨_, rfl⟩
        rw [hb] at hq
        have HBB := Lib.hid hb
        clear hb
        cases b
        · go_wp2_with fail
          go_region
          go_wp2_with fail
          generalize hw9 : World.setCell _ _ _ = w9
          have h9 : Blk w9 (w.heap.size + 1 + 1) 47 #[.int .i64 f1, .int .i64 f2, .int .i64 l1, .int .i64 l2] := by rw [← hw9]; exact ((show Blk _ _ _ _ from by repeat (first | exact (HF.out _ HN0.out).2.2 | refine Blk.drew ?_)).lay4a _ _).lay4b _ _
          have hn9 : Nw w w9 := by rw [← hw9]; exact ((((show Nw _ _ from by repeat (first | exact HW.out.tr HN0.out | refine Kp.drew ?_)).new HRL.out _ _).new HRL.out _ _).new HRL.out _ _).new HRL.out _ _
          obtain ⟨x0, x1, x2, x3, _, _, _, _⟩ := h9.four
          exact bodyPost_ret (v := .tuple #[.int .i64 3, sV f1 f2 l1 l2]) (by simp [results, Try.results48, go_sem, x0, x1, x2, x3]) rfl ⟨by rw [HV.out]; have h := HBB.out; simp; intro e1 e2; rw [e1, e2] at h; simp at h, by first | exact hn9 | exact hn9.drew⟩
        · go_wp2_with fail
          go_region
          go_wp2_with fail
          generalize hw9 : World.setCell _ _ _ = w9
          have h9 : Blk w9 (w.heap.size + 1 + 1) 47 #[.int .i64 f1, .int .i64 f2, .int .i64 l1, .int .i64 l2] := by rw [← hw9]; exact ((show Blk _ _ _ _ from by repeat (first | exact (HF.out _ HN0.out).2.2 | refine Blk.drew ?_)).lay4a _ _).lay4b _ _
          have hn9 : Nw w w9 := by rw [← hw9]; exact ((((show Nw _ _ from by repeat (first | exact HW.out.tr HN0.out | refine Kp.drew ?_)).new HRL.out _ _).new HRL.out _ _).new HRL.out _ _).new HRL.out _ _
          obtain ⟨x0, x1, x2, x3, _, _, _, _⟩ := h9.four
          exact bodyPost_ret (v := .tuple #[.int .i64 1, sV f1 f2 l1 l2]) (by simp [results, Try.results48, go_sem, x0, x1, x2, x3]) rfl ⟨by rw [HV.out]; have h := HBB.out; simp at h; simp [h.1, h.2], by first | exact hn9 | exact hn9.drew⟩
      · cases pa
        · go_wp2_with (first | (go_at_call 54; ((with_reducible refine (Calls.kept_first (c4 _)).mono ?_); rintro e _ ⟨rfl, p, rfl⟩)) | (go_at_call 54; ((with_reducible refine (Calls.kept_of (c5 _)).mono ?_); rintro e _ ⟨rfl, p, rfl⟩)) | fail)
          generalize hw9 : World.setCell _ _ _ = w9
          have h9 : Blk w9 (w.heap.size + 1 + 1) 47 #[.int .i64 0, .int .i64 0, .int .i64 0, .int .i64 0] := by rw [← hw9]; exact (((HF.out _ (HN0.out.tr p.since)).2.2).lay4a _ _).lay4b _ _
          have hn9 : Nw w w9 := by rw [← hw9]; exact ((((HW.out.tr (HN0.out.tr p.since)).new HRL.out _ _).new HRL.out _ _).new HRL.out _ _).new HRL.out _ _
          obtain ⟨x0, x1, x2, x3, _, _, _, _⟩ := h9.four
          exact bodyPost_ret (v := .tuple #[.int .i64 0, sV 0 0 0 0]) (by simp [results, Try.results48, go_sem, x0, x1, x2, x3]) rfl ⟨by rw [HV.out]; rfl, by first | exact hn9 | exact hn9.drew⟩
        · cases pb
          · go_wp2_with (first | (go_at_call 54; ((with_reducible refine (Calls.kept_first (c4 _)).mono ?_); rintro e _ ⟨rfl, p, rfl⟩)) | (go_at_call 54; ((with_reducible refine (Calls.kept_of (c5 _)).mono ?_); rintro e _ ⟨rfl, p, rfl⟩)) | fail)
            generalize hw9 : World.setCell _ _ _ = w9
            have h9 : Blk w9 (w.heap.size + 1 + 1) 47 #[.int .i64 0, .int .i64 0, .int .i64 0, .int .i64 0] := by rw [← hw9]; exact (((HF.out _ (HN0.out.tr p.since)).2.2).lay4a _ _).lay4b _ _
            have hn9 : Nw w w9 := by rw [← hw9]; exact ((((HW.out.tr (HN0.out.tr p.since)).new HRL.out _ _).new HRL.out _ _).new HRL.out _ _).new HRL.out _ _
            obtain ⟨x0, x1, x2, x3, _, _, _, _⟩ := h9.four
            exact bodyPost_ret (v := .tuple #[.int .i64 0, sV 0 0 0 0]) (by simp [results, Try.results48, go_sem, x0, x1, x2, x3]) rfl ⟨by rw [HV.out]; rfl, by first | exact hn9 | exact hn9.drew⟩
          · go_wp2_with (first | (go_at_call 54; ((with_reducible refine (Calls.kept_first (c4 _)).mono ?_); rintro e _ ⟨rfl, p, rfl⟩)) | (go_at_call 54; ((with_reducible refine (Calls.kept_of (c5 _)).mono ?_); rintro e _ ⟨rfl, p, rfl⟩)) | fail)
            generalize hw9 : World.setCell _ _ _ = w9
            have h9 : Blk w9 (w.heap.size + 1 + 1) 47 #[.int .i64 0, .int .i64 0, .int .i64 0, .int .i64 0] := by rw [← hw9]; exact (((HF.out _ (HN0.out.tr p.since)).2.2).lay4a _ _).lay4b _ _
            have hn9 : Nw w w9 := by rw [← hw9]; exact ((((HW.out.tr (HN0.out.tr p.since)).new HRL.out _ _).new HRL.out _ _).new HRL.out _ _).new HRL.out _ _
            obtain ⟨x0, x1, x2, x3, _, _, _, _⟩ := h9.four
            exact bodyPost_ret (v := .tuple #[.int .i64 2, sV 0 0 0 0]) (by simp [results, Try.results48, go_sem, x0, x1, x2, x3]) rfl ⟨by rw [HV.out]; rfl, by first | exact hn9 | exact hn9.drew⟩

end Go.Proofs.Ythifljljaejfmaa.W
