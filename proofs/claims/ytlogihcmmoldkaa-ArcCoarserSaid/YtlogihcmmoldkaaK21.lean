/-
  seg: meet, Meet and Share: how two segments meet, and what they share. No condition.
  seg, plain: points on segments, the order on a line, what two segments have in common; integers only, no program. Condition: the coordinates are within 4000 where it says so.
-/
import Derived.Test.YtlogihcmmoldkaaK20
import Derived.Test.YtlogihcmmoldkaaK04
namespace Go.Proofs.Ytlogihcmmoldkaa.W
open Go.RowKit Go.Proofs.Ytlogihcmmoldkaa.V

def kindS (ax ay bx bz cx cy dx dy : Int) : Int := if validS ax ay bx bz && validS cx cy dx dy then (if (comS ax ay bx bz cx cy dx dy).isEmpty then (if partS ax ay bx bz cx cy dx dy && partS cx cy dx dy ax ay bx bz then 2 else 0) else if firstV (comS ax ay bx bz cx cy dx dy) = lastV (comS ax ay bx bz cx cy dx dy) then 1 else 3) else 0
def partsS (ax ay bx bz cx cy dx dy : Int) : (Int × Int) × (Int × Int) := if validS ax ay bx bz && validS cx cy dx dy && !(comS ax ay bx bz cx cy dx dy).isEmpty then (firstV (comS ax ay bx bz cx cy dx dy), lastV (comS ax ay bx bz cx cy dx dy)) else ((0, 0), (0, 0))
def meetV (ax ay bx bz cx cy dx dy : Int) : Value := .tuple #[.int .i64 (kindS ax ay bx bz cx cy dx dy), sV (partsS ax ay bx bz cx cy dx dy).1.1 (partsS ax ay bx bz cx cy dx dy).1.2 (partsS ax ay bx bz cx cy dx dy).2.1 (partsS ax ay bx bz cx cy dx dy).2.2]
def shareS (ax ay bx bz cx cy dx dy : Int) : (Int × Int) × (Int × Int) := if kindS ax ay bx bz cx cy dx dy = 3 then partsS ax ay bx bz cx cy dx dy else ((0, 0), (0, 0))

set_option maxRecDepth 100000 in
set_option maxHeartbeats 6400000 in
theorem meet_any (ax ay bx bz cx cy dx dy : Int) (w : World) : Calls Try.prog 86 #[sV ax ay bx bz, sV cx cy dx dy] w fun e w' => e = .returned (meetV ax ay bx bz cx cy dx dy) ∧ Nw w w' := by
  have hmix := mixed7
  have c1 := fun w1 => valid_any ax ay bx bz w1
  have c2 := fun w1 => valid_any cx cy dx dy w1
  have c3 := fun w1 => sharedEnds_any ax ay bx bz cx cy dx dy w1
  have c4 := fun w1 => parts_any ax ay bx bz cx cy dx dy w1
  have c5 := fun w1 => parts_any cx cy dx dy ax ay bx bz w1
  have HV := Lib.hid (show meetV ax ay bx bz cx cy dx dy = if validS ax ay bx bz && validS cx cy dx dy then (if (comS ax ay bx bz cx cy dx dy).isEmpty then (.tuple #[.int .i64 (if partS ax ay bx bz cx cy dx dy && partS cx cy dx dy ax ay bx bz then 2 else 0), sV 0 0 0 0]) else .tuple #[.int .i64 (if firstV (comS ax ay bx bz cx cy dx dy) = lastV (comS ax ay bx bz cx cy dx dy) then 1 else 3), sV (firstV (comS ax ay bx bz cx cy dx dy)).1 (firstV (comS ax ay bx bz cx cy dx dy)).2 (lastV (comS ax ay bx bz cx cy dx dy)).1 (lastV (comS ax ay bx bz cx cy dx dy)).2]) else .tuple #[.int .i64 0, sV 0 0 0 0] by
    unfold meetV kindS partsS
    cases validS ax ay bx bz && validS cx cy dx dy <;> cases (comS ax ay bx bz cx cy dx dy).isEmpty <;> rfl)
  have hF : ∀ w', Nw (((w.alloc (.cells #[.int .i64 ax, .int .i64 ay, .int .i64 bx, .int .i64 bz] 76)).alloc (.cells #[.int .i64 cx, .int .i64 cy, .int .i64 dx, .int .i64 dy] 76)).alloc (.cells #[.int .i64 0, .int .i64 0, .int .i64 0, .int .i64 0] 76)) w' → Blk w' w.heap.size 76 #[.int .i64 ax, .int .i64 ay, .int .i64 bx, .int .i64 bz] ∧ Blk w' (w.heap.size + 1) 76 #[.int .i64 cx, .int .i64 cy, .int .i64 dx, .int .i64 dy] ∧ Blk w' (w.heap.size + 1 + 1) 76 #[.int .i64 0, .int .i64 0, .int .i64 0, .int .i64 0] := fun w' h => ⟨(((Blk.new_at w 76 #[.int .i64 ax, .int .i64 ay, .int .i64 bx, .int .i64 bz] (n := w.heap.size) rfl).alloc _).alloc _).kp h id, ((Blk.new_at _ 76 #[.int .i64 cx, .int .i64 cy, .int .i64 dx, .int .i64 dy] (n := w.heap.size + 1) (by simp)).alloc _).kp h id, (Blk.new_at _ 76 #[.int .i64 0, .int .i64 0, .int .i64 0, .int .i64 0] (n := w.heap.size + 1 + 1) (by simp)).kp h id⟩
  have HF := Lib.hid hF
  have HW := Lib.hid (show Nw w (((w.alloc (.cells #[.int .i64 ax, .int .i64 ay, .int .i64 bx, .int .i64 bz] 76)).alloc (.cells #[.int .i64 cx, .int .i64 cy, .int .i64 dx, .int .i64 dy] 76)).alloc (.cells #[.int .i64 0, .int .i64 0, .int .i64 0, .int .i64 0] 76)) from ((nw_alloc _ _).alloc _).alloc _)
  have HN0 := Lib.hid (Kp.refl (fun _ => False) (((w.alloc (.cells #[.int .i64 ax, .int .i64 ay, .int .i64 bx, .int .i64 bz] 76)).alloc (.cells #[.int .i64 cx, .int .i64 cy, .int .i64 dx, .int .i64 dy] 76)).alloc (.cells #[.int .i64 0, .int .i64 0, .int .i64 0, .int .i64 0] 76)))
  have HRL := Lib.hid (show w.heap.size ≤ w.heap.size + 1 + 1 from by omega)
  rw [shared_end] at c3
  clear hF
  have q0 := fun p : KeptW (((w.alloc (.cells #[.int .i64 ax, .int .i64 ay, .int .i64 bx, .int .i64 bz] 76)).alloc (.cells #[.int .i64 cx, .int .i64 cy, .int .i64 dx, .int .i64 dy] 76)).alloc (.cells #[.int .i64 0, .int .i64 0, .int .i64 0, .int .i64 0] 76)) => (HF.out p.wd p.since).1.cell 0
  have q1 := fun p : KeptW (((w.alloc (.cells #[.int .i64 ax, .int .i64 ay, .int .i64 bx, .int .i64 bz] 76)).alloc (.cells #[.int .i64 cx, .int .i64 cy, .int .i64 dx, .int .i64 dy] 76)).alloc (.cells #[.int .i64 0, .int .i64 0, .int .i64 0, .int .i64 0] 76)) => (HF.out p.wd p.since).1.cell 1
  have q2 := fun p : KeptW (((w.alloc (.cells #[.int .i64 ax, .int .i64 ay, .int .i64 bx, .int .i64 bz] 76)).alloc (.cells #[.int .i64 cx, .int .i64 cy, .int .i64 dx, .int .i64 dy] 76)).alloc (.cells #[.int .i64 0, .int .i64 0, .int .i64 0, .int .i64 0] 76)) => (HF.out p.wd p.since).1.cell 2
  have q3 := fun p : KeptW (((w.alloc (.cells #[.int .i64 ax, .int .i64 ay, .int .i64 bx, .int .i64 bz] 76)).alloc (.cells #[.int .i64 cx, .int .i64 cy, .int .i64 dx, .int .i64 dy] 76)).alloc (.cells #[.int .i64 0, .int .i64 0, .int .i64 0, .int .i64 0] 76)) => (HF.out p.wd p.since).1.cell 3
  have q4 := fun p : KeptW (((w.alloc (.cells #[.int .i64 ax, .int .i64 ay, .int .i64 bx, .int .i64 bz] 76)).alloc (.cells #[.int .i64 cx, .int .i64 cy, .int .i64 dx, .int .i64 dy] 76)).alloc (.cells #[.int .i64 0, .int .i64 0, .int .i64 0, .int .i64 0] 76)) => (HF.out p.wd p.since).2.1.cell 0
  have q5 := fun p : KeptW (((w.alloc (.cells #[.int .i64 ax, .int .i64 ay, .int .i64 bx, .int .i64 bz] 76)).alloc (.cells #[.int .i64 cx, .int .i64 cy, .int .i64 dx, .int .i64 dy] 76)).alloc (.cells #[.int .i64 0, .int .i64 0, .int .i64 0, .int .i64 0] 76)) => (HF.out p.wd p.since).2.1.cell 1
  have q6 := fun p : KeptW (((w.alloc (.cells #[.int .i64 ax, .int .i64 ay, .int .i64 bx, .int .i64 bz] 76)).alloc (.cells #[.int .i64 cx, .int .i64 cy, .int .i64 dx, .int .i64 dy] 76)).alloc (.cells #[.int .i64 0, .int .i64 0, .int .i64 0, .int .i64 0] 76)) => (HF.out p.wd p.since).2.1.cell 2
  have q7 := fun p : KeptW (((w.alloc (.cells #[.int .i64 ax, .int .i64 ay, .int .i64 bx, .int .i64 bz] 76)).alloc (.cells #[.int .i64 cx, .int .i64 cy, .int .i64 dx, .int .i64 dy] 76)).alloc (.cells #[.int .i64 0, .int .i64 0, .int .i64 0, .int .i64 0] 76)) => (HF.out p.wd p.since).2.1.cell 3
  have y0 := fun p : KeptW (((w.alloc (.cells #[.int .i64 ax, .int .i64 ay, .int .i64 bx, .int .i64 bz] 76)).alloc (.cells #[.int .i64 cx, .int .i64 cy, .int .i64 dx, .int .i64 dy] 76)).alloc (.cells #[.int .i64 0, .int .i64 0, .int .i64 0, .int .i64 0] 76)) => (HF.out p.wd (HN0.out.tr p.since)).2.2.frozen 0
  have s0 := fun p : KeptW (((w.alloc (.cells #[.int .i64 ax, .int .i64 ay, .int .i64 bx, .int .i64 bz] 76)).alloc (.cells #[.int .i64 cx, .int .i64 cy, .int .i64 dx, .int .i64 dy] 76)).alloc (.cells #[.int .i64 0, .int .i64 0, .int .i64 0, .int .i64 0] 76)) => (HF.out p.wd (HN0.out.tr p.since)).2.2.cell 0
  have y1 := fun p : KeptW (((w.alloc (.cells #[.int .i64 ax, .int .i64 ay, .int .i64 bx, .int .i64 bz] 76)).alloc (.cells #[.int .i64 cx, .int .i64 cy, .int .i64 dx, .int .i64 dy] 76)).alloc (.cells #[.int .i64 0, .int .i64 0, .int .i64 0, .int .i64 0] 76)) => (HF.out p.wd (HN0.out.tr p.since)).2.2.frozen 1
  have s1 := fun p : KeptW (((w.alloc (.cells #[.int .i64 ax, .int .i64 ay, .int .i64 bx, .int .i64 bz] 76)).alloc (.cells #[.int .i64 cx, .int .i64 cy, .int .i64 dx, .int .i64 dy] 76)).alloc (.cells #[.int .i64 0, .int .i64 0, .int .i64 0, .int .i64 0] 76)) => (HF.out p.wd (HN0.out.tr p.since)).2.2.cell 1
  have y2 := fun p : KeptW (((w.alloc (.cells #[.int .i64 ax, .int .i64 ay, .int .i64 bx, .int .i64 bz] 76)).alloc (.cells #[.int .i64 cx, .int .i64 cy, .int .i64 dx, .int .i64 dy] 76)).alloc (.cells #[.int .i64 0, .int .i64 0, .int .i64 0, .int .i64 0] 76)) => (HF.out p.wd (HN0.out.tr p.since)).2.2.frozen 2
  have s2 := fun p : KeptW (((w.alloc (.cells #[.int .i64 ax, .int .i64 ay, .int .i64 bx, .int .i64 bz] 76)).alloc (.cells #[.int .i64 cx, .int .i64 cy, .int .i64 dx, .int .i64 dy] 76)).alloc (.cells #[.int .i64 0, .int .i64 0, .int .i64 0, .int .i64 0] 76)) => (HF.out p.wd (HN0.out.tr p.since)).2.2.cell 2
  have y3 := fun p : KeptW (((w.alloc (.cells #[.int .i64 ax, .int .i64 ay, .int .i64 bx, .int .i64 bz] 76)).alloc (.cells #[.int .i64 cx, .int .i64 cy, .int .i64 dx, .int .i64 dy] 76)).alloc (.cells #[.int .i64 0, .int .i64 0, .int .i64 0, .int .i64 0] 76)) => (HF.out p.wd (HN0.out.tr p.since)).2.2.frozen 3
  have s3 := fun p : KeptW (((w.alloc (.cells #[.int .i64 ax, .int .i64 ay, .int .i64 bx, .int .i64 bz] 76)).alloc (.cells #[.int .i64 cx, .int .i64 cy, .int .i64 dx, .int .i64 dy] 76)).alloc (.cells #[.int .i64 0, .int .i64 0, .int .i64 0, .int .i64 0] 76)) => (HF.out p.wd (HN0.out.tr p.since)).2.2.cell 3
  generalize meetV ax ay bx bz cx cy dx dy = mv at *
  generalize validS ax ay bx bz = va at *
  generalize validS cx cy dx dy = vb at *
  generalize partS ax ay bx bz cx cy dx dy = pa at *
  generalize partS cx cy dx dy ax ay bx bz = pb at *
  generalize comS ax ay bx bz cx cy dx dy = L at *
  cases va
  · go_enter Try.func86, Try.ntmps86
    go_wp2_with (first | (go_at_call 90; ((with_reducible refine (Calls.kept_first (c1 _)).mono ?_); rintro e _ ⟨rfl, p, rfl⟩)) | (go_at_call 90; ((with_reducible refine (Calls.kept_of (c2 _)).mono ?_); rintro e _ ⟨rfl, p, rfl⟩)) | fail)
    generalize hw9 : World.setCell _ _ _ = w9
    have h9 : Blk w9 (w.heap.size + 1 + 1) 76 #[.int .i64 0, .int .i64 0, .int .i64 0, .int .i64 0] := by rw [← hw9]; exact (((HF.out _ p.since).2.2).lay4a _ _).lay4b _ _
    have hn9 : Nw w w9 := by rw [← hw9]; exact ((((HW.out.tr p.since).new HRL.out _ _).new HRL.out _ _).new HRL.out _ _).new HRL.out _ _
    obtain ⟨x0, x1, x2, x3, _, _, _, _⟩ := h9.four
    exact bodyPost_ret (v := .tuple #[.int .i64 0, sV 0 0 0 0]) (by simp [results, Try.results86, go_sem, x0, x1, x2, x3]) rfl ⟨by rw [HV.out]; rfl, by first | exact hn9 | exact hn9.drew⟩
  · cases vb
    · go_enter Try.func86, Try.ntmps86
      go_wp2_with (first | (go_at_call 90; ((with_reducible refine (Calls.kept_first (c1 _)).mono ?_); rintro e _ ⟨rfl, p, rfl⟩)) | (go_at_call 90; ((with_reducible refine (Calls.kept_of (c2 _)).mono ?_); rintro e _ ⟨rfl, p, rfl⟩)) | fail)
      generalize hw9 : World.setCell _ _ _ = w9
      have h9 : Blk w9 (w.heap.size + 1 + 1) 76 #[.int .i64 0, .int .i64 0, .int .i64 0, .int .i64 0] := by rw [← hw9]; exact (((HF.out _ p.since).2.2).lay4a _ _).lay4b _ _
      have hn9 : Nw w w9 := by rw [← hw9]; exact ((((HW.out.tr p.since).new HRL.out _ _).new HRL.out _ _).new HRL.out _ _).new HRL.out _ _
      obtain ⟨x0, x1, x2, x3, _, _, _, _⟩ := h9.four
      exact bodyPost_ret (v := .tuple #[.int .i64 0, sV 0 0 0 0]) (by simp [results, Try.results86, go_sem, x0, x1, x2, x3]) rfl ⟨by rw [HV.out]; rfl, by first | exact hn9 | exact hn9.drew⟩
    · obtain ⟨⟨f1, f2⟩, hf⟩ : ∃ x, firstV L = x := ⟨_, rfl⟩
      obtain ⟨⟨l1, l2⟩, hl⟩ : ∃ x, lastV L = x := ⟨_, rfl⟩
      obtain ⟨em, hem⟩ : ∃ x, L.isEmpty = x := ⟨_, rfl⟩
      rw [hf, hl, hem] at c3 HV
      clear hf hl hem L
      go_enter Try.func86, Try.ntmps86
      go_upto_region 4 with (first | (go_at_call 90; ((with_reducible refine (Calls.kept_first (c1 _)).mono ?_); rintro e _ ⟨rfl, p, rfl⟩)) | (go_at_call 90; ((with_reducible refine (Calls.kept_of (c2 _)).mono ?_); rintro e _ ⟨rfl, p, rfl⟩)) | (go_at_call 91; ((with_reducible refine (Calls.kept_of (c3 _)).mono ?_); rintro e _ ⟨rfl, p, rfl⟩)) | fail)
      obtain ⟨g1, hg1⟩ : ∃ g, p.wd.heap.size = g := ⟨_, rfl⟩
      have hb1 := Blk.new_at p.wd 76 #[.int .i64 f1, .int .i64 f2, .int .i64 l1, .int .i64 l2] hg1
      have hn1 := p.since.alloc (.cells #[.int .i64 f1, .int .i64 f2, .int .i64 l1, .int .i64 l2] 76)
      rw [hg1]
      generalize p.wd.alloc (.cells #[.int .i64 f1, .int .i64 f2, .int .i64 l1, .int .i64 l2] 76) = w1 at hb1 hn1 ⊢
      have HN0 := Lib.hid hn1
      have HB := Lib.hid hb1
      clear hb1 hn1 hg1 q0 q1 q2 q3 q4 q5 q6 q7 y0 y1 y2 y3 s0 s1 s2 s3
      have q0 := fun p : KeptW w1 => (HF.out p.wd (HN0.out.tr p.since)).1.cell 0
      have z0 := q0 ⟨w1, Kp.refl _ _⟩
      have q1 := fun p : KeptW w1 => (HF.out p.wd (HN0.out.tr p.since)).1.cell 1
      have z1 := q1 ⟨w1, Kp.refl _ _⟩
      have q2 := fun p : KeptW w1 => (HF.out p.wd (HN0.out.tr p.since)).1.cell 2
      have z2 := q2 ⟨w1, Kp.refl _ _⟩
      have q3 := fun p : KeptW w1 => (HF.out p.wd (HN0.out.tr p.since)).1.cell 3
      have z3 := q3 ⟨w1, Kp.refl _ _⟩
      have q4 := fun p : KeptW w1 => (HF.out p.wd (HN0.out.tr p.since)).2.1.cell 0
      have z4 := q4 ⟨w1, Kp.refl _ _⟩
      have q5 := fun p : KeptW w1 => (HF.out p.wd (HN0.out.tr p.since)).2.1.cell 1
      have z5 := q5 ⟨w1, Kp.refl _ _⟩
      have q6 := fun p : KeptW w1 => (HF.out p.wd (HN0.out.tr p.since)).2.1.cell 2
      have z6 := q6 ⟨w1, Kp.refl _ _⟩
      have q7 := fun p : KeptW w1 => (HF.out p.wd (HN0.out.tr p.since)).2.1.cell 3
      have z7 := q7 ⟨w1, Kp.refl _ _⟩
      have y0 := fun p : KeptW w1 => (HF.out p.wd (HN0.out.tr p.since)).2.2.frozen 0
      have r0 := y0 ⟨w1, Kp.refl _ _⟩
      have s0 := fun p : KeptW w1 => (HF.out p.wd (HN0.out.tr p.since)).2.2.cell 0
      have t0 := s0 ⟨w1, Kp.refl _ _⟩
      have y1 := fun p : KeptW w1 => (HF.out p.wd (HN0.out.tr p.since)).2.2.frozen 1
      have r1 := y1 ⟨w1, Kp.refl _ _⟩
      have s1 := fun p : KeptW w1 => (HF.out p.wd (HN0.out.tr p.since)).2.2.cell 1
      have t1 := s1 ⟨w1, Kp.refl _ _⟩
      have y2 := fun p : KeptW w1 => (HF.out p.wd (HN0.out.tr p.since)).2.2.frozen 2
      have r2 := y2 ⟨w1, Kp.refl _ _⟩
      have s2 := fun p : KeptW w1 => (HF.out p.wd (HN0.out.tr p.since)).2.2.cell 2
      have t2 := s2 ⟨w1, Kp.refl _ _⟩
      have y3 := fun p : KeptW w1 => (HF.out p.wd (HN0.out.tr p.since)).2.2.frozen 3
      have r3 := y3 ⟨w1, Kp.refl _ _⟩
      have s3 := fun p : KeptW w1 => (HF.out p.wd (HN0.out.tr p.since)).2.2.cell 3
      have t3 := s3 ⟨w1, Kp.refl _ _⟩
      have q8 := fun p : KeptW w1 => (HB.out.kept p).cell 0
      have z8 := q8 ⟨w1, Kp.refl _ _⟩
      have q9 := fun p : KeptW w1 => (HB.out.kept p).cell 1
      have z9 := q9 ⟨w1, Kp.refl _ _⟩
      have q10 := fun p : KeptW w1 => (HB.out.kept p).cell 2
      have z10 := q10 ⟨w1, Kp.refl _ _⟩
      have q11 := fun p : KeptW w1 => (HB.out.kept p).cell 3
      have z11 := q11 ⟨w1, Kp.refl _ _⟩
      cases em
      · have hq := fun w1 => eql_vecg f1 f2 l1 l2 w1
        obtain ⟨b, hb⟩ : ∃ b, (f1 == l1 && f2 == l2) = b := ⟨_, rfl⟩
        rw [hb] at hq
        have HBB := Lib.hid hb
        clear hb
        cases b
        · go_wp2_with fail
          go_region
          go_wp2_with fail
          generalize hw9 : World.setCell _ _ _ = w9
          have h9 : Blk w9 (w.heap.size + 1 + 1) 76 #[.int .i64 f1, .int .i64 f2, .int .i64 l1, .int .i64 l2] := by rw [← hw9]; exact ((show Blk _ _ _ _ from by repeat (first | exact (HF.out _ HN0.out).2.2 | refine Blk.drew ?_)).lay4a _ _).lay4b _ _
          have hn9 : Nw w w9 := by rw [← hw9]; exact ((((show Nw _ _ from by repeat (first | exact HW.out.tr HN0.out | refine Kp.drew ?_)).new HRL.out _ _).new HRL.out _ _).new HRL.out _ _).new HRL.out _ _
          obtain ⟨x0, x1, x2, x3, _, _, _, _⟩ := h9.four
          exact bodyPost_ret (v := .tuple #[.int .i64 3, sV f1 f2 l1 l2]) (by simp [results, Try.results86, go_sem, x0, x1, x2, x3]) rfl ⟨by rw [HV.out]; have h := HBB.out; simp; intro e1 e2; rw [e1, e2] at h; simp at h, by first | exact hn9 | exact hn9.drew⟩
        · go_wp2_with fail
          go_region
          go_wp2_with fail
          generalize hw9 : World.setCell _ _ _ = w9
          have h9 : Blk w9 (w.heap.size + 1 + 1) 76 #[.int .i64 f1, .int .i64 f2, .int .i64 l1, .int .i64 l2] := by rw [← hw9]; exact ((show Blk _ _ _ _ from by repeat (first | exact (HF.out _ HN0.out).2.2 | refine Blk.drew ?_)).lay4a _ _).lay4b _ _
          have hn9 : Nw w w9 := by rw [← hw9]; exact ((((show Nw _ _ from by repeat (first | exact HW.out.tr HN0.out | refine Kp.drew ?_)).new HRL.out _ _).new HRL.out _ _).new HRL.out _ _).new HRL.out _ _
          obtain ⟨x0, x1, x2, x3, _, _, _, _⟩ := h9.four
          exact bodyPost_ret (v := .tuple #[.int .i64 1, sV f1 f2 l1 l2]) (by simp [results, Try.results86, go_sem, x0, x1, x2, x3]) rfl ⟨by rw [HV.out]; have h := HBB.out; simp at h; simp [h.1, h.2], by first | exact hn9 | exact hn9.drew⟩
      · cases pa
        · go_wp2_with (first | (go_at_call 92; ((with_reducible refine (Calls.kept_first (c4 _)).mono ?_); rintro e _ ⟨rfl, p, rfl⟩)) | (go_at_call 92; ((with_reducible refine (Calls.kept_of (c5 _)).mono ?_); rintro e _ ⟨rfl, p, rfl⟩)) | fail)
          generalize hw9 : World.setCell _ _ _ = w9
          have h9 : Blk w9 (w.heap.size + 1 + 1) 76 #[.int .i64 0, .int .i64 0, .int .i64 0, .int .i64 0] := by rw [← hw9]; exact (((HF.out _ (HN0.out.tr p.since)).2.2).lay4a _ _).lay4b _ _
          have hn9 : Nw w w9 := by rw [← hw9]; exact ((((HW.out.tr (HN0.out.tr p.since)).new HRL.out _ _).new HRL.out _ _).new HRL.out _ _).new HRL.out _ _
          obtain ⟨x0, x1, x2, x3, _, _, _, _⟩ := h9.four
          exact bodyPost_ret (v := .tuple #[.int .i64 0, sV 0 0 0 0]) (by simp [results, Try.results86, go_sem, x0, x1, x2, x3]) rfl ⟨by rw [HV.out]; rfl, by first | exact hn9 | exact hn9.drew⟩
        · cases pb
          · go_wp2_with (first | (go_at_call 92; ((with_reducible refine (Calls.kept_first (c4 _)).mono ?_); rintro e _ ⟨rfl, p, rfl⟩)) | (go_at_call 92; ((with_reducible refine (Calls.kept_of (c5 _)).mono ?_); rintro e _ ⟨rfl, p, rfl⟩)) | fail)
            generalize hw9 : World.setCell _ _ _ = w9
            have h9 : Blk w9 (w.heap.size + 1 + 1) 76 #[.int .i64 0, .int .i64 0, .int .i64 0, .int .i64 0] := by rw [← hw9]; exact (((HF.out _ (HN0.out.tr p.since)).2.2).lay4a _ _).lay4b _ _
            have hn9 : Nw w w9 := by rw [← hw9]; exact ((((HW.out.tr (HN0.out.tr p.since)).new HRL.out _ _).new HRL.out _ _).new HRL.out _ _).new HRL.out _ _
            obtain ⟨x0, x1, x2, x3, _, _, _, _⟩ := h9.four
            exact bodyPost_ret (v := .tuple #[.int .i64 0, sV 0 0 0 0]) (by simp [results, Try.results86, go_sem, x0, x1, x2, x3]) rfl ⟨by rw [HV.out]; rfl, by first | exact hn9 | exact hn9.drew⟩
          · go_wp2_with (first | (go_at_call 92; ((with_reducible refine (Calls.kept_first (c4 _)).mono ?_); rintro e _ ⟨rfl, p, rfl⟩)) | (go_at_call 92; ((with_reducible refine (Calls.kept_of (c5 _)).mono ?_); rintro e _ ⟨rfl, p, rfl⟩)) | fail)
            generalize hw9 : World.setCell _ _ _ = w9
            have h9 : Blk w9 (w.heap.size + 1 + 1) 76 #[.int .i64 0, .int .i64 0, .int .i64 0, .int .i64 0] := by rw [← hw9]; exact (((HF.out _ (HN0.out.tr p.since)).2.2).lay4a _ _).lay4b _ _
            have hn9 : Nw w w9 := by rw [← hw9]; exact ((((HW.out.tr (HN0.out.tr p.since)).new HRL.out _ _).new HRL.out _ _).new HRL.out _ _).new HRL.out _ _
            obtain ⟨x0, x1, x2, x3, _, _, _, _⟩ := h9.four
            exact bodyPost_ret (v := .tuple #[.int .i64 2, sV 0 0 0 0]) (by simp [results, Try.results86, go_sem, x0, x1, x2, x3]) rfl ⟨by rw [HV.out]; rfl, by first | exact hn9 | exact hn9.drew⟩

end Go.Proofs.Ytlogihcmmoldkaa.W

namespace Go.Proofs.Ytlogihcmmoldkaa.G

/-- the exact cross product of b - a and c - a -/
def crs (ax ay bx bz cx cy : Int) : Int := (bx - ax) * (cy - ay) - (bz - ay) * (cx - ax)
def dotP (ax ay bx bz px py : Int) : Int := (ax - px) * (bx - px) + (ay - py) * (bz - py)
/-- on the segment: on its line, and the ends in opposite directions -/
def On (ax ay bx bz px py : Int) : Prop := crs ax ay bx bz px py = 0 ∧ dotP ax ay bx bz px py ≤ 0
def Lm (x y : Int) : Prop := -4000 ≤ x ∧ x ≤ 4000 ∧ -4000 ≤ y ∧ y ≤ 4000
def key (x y : Int) : Int := y * 16384 + x
/-- between in the order -/
def Btw (ax ay bx bz px py : Int) : Prop := key ax ay ≤ key px py ∧ key px py ≤ key bx bz ∨ key bx bz ≤ key px py ∧ key px py ≤ key ax ay

theorem sq_nonneg (a : Int) : 0 ≤ a * a := by
  rcases Int.le_total 0 a with h | h
  · exact Int.mul_nonneg h h
  · exact Int.mul_nonneg_of_nonpos_of_nonpos h h
theorem sq_pos {a : Int} (h : a ≠ 0) : 0 < a * a := by
  rcases Int.lt_or_gt_of_ne h with h | h
  · exact Int.mul_pos_of_neg_of_neg h h
  · exact Int.mul_pos h h
theorem sum_pos {x y : Int} (h : ¬ (x = 0 ∧ y = 0)) : 0 < x * x + y * y := by
  by_cases hx : x = 0
  · have hy : y ≠ 0 := fun e => h ⟨hx, e⟩
    have := sq_pos hy
    have := sq_nonneg x
    omega
  · have := sq_pos hx
    have := sq_nonneg y
    omega
theorem zero_of_mul {a b : Int} (h : a * b = 0) (hb : b ≠ 0) : a = 0 := (Int.mul_eq_zero.1 h).resolve_right hb
theorem nonpos_of_mul {a b : Int} (hb : 0 < b) (h : b * a ≤ 0) : a ≤ 0 := by
  rcases Int.lt_or_le 0 a with g | g
  · have := Int.mul_pos hb g
    omega
  · exact g
theorem neg_of_mul {a b : Int} (hb : 0 < b) (h : b * a < 0) : a < 0 := by
  rcases Int.lt_or_le a 0 with g | g
  · exact g
  · have := Int.mul_nonneg (Int.le_of_lt hb) g
    omega

/-- the box, on a line -/
theorem box_iff {ux uy vx vy : Int} (h : ux * vy = uy * vx) : ux * vx + uy * vy ≤ 0 ↔ ux * vx ≤ 0 ∧ uy * vy ≤ 0 := by
  constructor
  · intro hd
    have hp : (ux * vx) * (uy * vy) = (ux * vy) * (ux * vy) := by
      have : (ux * vx) * (uy * vy) = (ux * vy) * (uy * vx) := by grind
      rw [this, ← h]
    have hn := sq_nonneg (ux * vy)
    rw [← hp] at hn
    generalize ux * vx = A at *
    generalize uy * vy = B at *
    constructor
    · rcases Int.lt_or_le 0 A with g | g
      · have : B < 0 := by omega
        have := Int.mul_neg_of_pos_of_neg g this
        omega
      · exact g
    · rcases Int.lt_or_le 0 B with g | g
      · have : A < 0 := by omega
        have := Int.mul_neg_of_neg_of_pos this g
        omega
      · exact g
  · rintro ⟨h1, h2⟩
    omega
theorem side_iff (a b p : Int) : (a - p) * (b - p) ≤ 0 ↔ min a b ≤ p ∧ p ≤ max a b := by
  constructor
  · intro h
    rcases Int.lt_or_le 0 (a - p) with g | g <;> rcases Int.lt_or_le 0 (b - p) with k | k
    · have := Int.mul_pos g k
      omega
    · omega
    · omega
    · by_cases e : a - p = 0
      · omega
      · by_cases e' : b - p = 0
        · omega
        · have := Int.mul_pos_of_neg_of_neg (show a - p < 0 by omega) (show b - p < 0 by omega)
          omega
  · rintro ⟨h1, h2⟩
    rcases Int.le_total a b with g | g
    · exact Int.mul_nonpos_of_nonpos_of_nonneg (by omega) (by omega)
    · exact Int.mul_nonpos_of_nonneg_of_nonpos (by omega) (by omega)
theorem on_box (ax ay bx bz px py : Int) : On ax ay bx bz px py ↔ (min ax bx ≤ px ∧ px ≤ max ax bx ∧ min ay bz ≤ py ∧ py ≤ max ay bz) ∧ crs ax ay bx bz px py = 0 := by
  unfold On dotP
  constructor
  · rintro ⟨h1, h2⟩
    have hp : (ax - px) * (bz - py) = (ay - py) * (bx - px) := by unfold crs at h1; grind
    obtain ⟨h3, h4⟩ := (box_iff hp).1 h2
    have := (side_iff _ _ _).1 h3
    have := (side_iff _ _ _).1 h4
    exact ⟨⟨by omega, by omega, by omega, by omega⟩, h1⟩
  · rintro ⟨⟨h1, h2, h3, h4⟩, h5⟩
    have hp : (ax - px) * (bz - py) = (ay - py) * (bx - px) := by unfold crs at h5; grind
    exact ⟨h5, (box_iff hp).2 ⟨(side_iff _ _ _).2 ⟨h1, h2⟩, (side_iff _ _ _).2 ⟨h3, h4⟩⟩⟩

theorem key_inj {x y z t : Int} (h : Lm x y) (g : Lm z t) (e : key x y = key z t) : x = z ∧ y = t := by
  unfold Lm key at *
  omega
theorem key_lt {x y z t : Int} (h : Lm x y) (g : Lm z t) : key x y < key z t ↔ y < t ∨ y = t ∧ x < z := by
  unfold Lm key at *
  omega
theorem between (a b p : Int) : (a - p) * (b - p) ≤ 0 ↔ a ≤ p ∧ p ≤ b ∨ b ≤ p ∧ p ≤ a := by
  rw [side_iff]
  omega
theorem on_btw {ax ay bx bz px py : Int} (ha : Lm ax ay) (hp : Lm px py) : On ax ay bx bz px py ↔ crs ax ay bx bz px py = 0 ∧ Btw ax ay bx bz px py := by
  unfold On Btw
  rw [← between]
  refine and_congr_right fun h => ?_
  have hx : (ax - px) * (bz - py) = (ay - py) * (bx - px) := by unfold crs at h; grind
  have hk : key ax ay - key px py = 16384 * (ay - py) + (ax - px) := by unfold key; omega
  have hl : key bx bz - key px py = 16384 * (bz - py) + (bx - px) := by unfold key; omega
  unfold dotP
  have hu : ax - px = 0 ∧ ay - py = 0 ↔ key ax ay - key px py = 0 := by
    constructor
    · rintro ⟨h1, h2⟩; omega
    · intro h'
      have := key_inj ha hp (by omega)
      omega
  rw [hk] at hu
  rw [hk, hl]
  generalize ax - px = ux at *
  generalize ay - py = uy at *
  generalize bx - px = vx at *
  generalize bz - py = vy at *
  have hid : (ux * ux + uy * uy) * (16384 * vy + vx) = (ux * vx + uy * vy) * (16384 * uy + ux) := by grind
  by_cases h0 : ux = 0 ∧ uy = 0
  · rw [h0.1, h0.2]
    simp
  · have hpos := sum_pos h0
    have hkn : 16384 * uy + ux ≠ 0 := fun e => h0 (hu.2 e)
    have hk2 := sq_pos hkn
    have e : (ux * ux + uy * uy) * ((16384 * uy + ux) * (16384 * vy + vx)) = ((16384 * uy + ux) * (16384 * uy + ux)) * (ux * vx + uy * vy) := by
      have : (ux * ux + uy * uy) * ((16384 * uy + ux) * (16384 * vy + vx)) = (16384 * uy + ux) * ((ux * ux + uy * uy) * (16384 * vy + vx)) := by grind
      rw [this, hid]
      grind
    generalize (16384 * uy + ux) * (16384 * vy + vx) = G at *
    generalize ux * vx + uy * vy = H at *
    constructor
    · intro h1
      refine nonpos_of_mul hpos ?_
      rw [e]
      exact Int.mul_nonpos_of_nonneg_of_nonpos (by omega) h1
    · intro h1
      refine nonpos_of_mul hk2 ?_
      rw [← e]
      exact Int.mul_nonpos_of_nonneg_of_nonpos (by omega) h1

/-- parallel to one that is not zero -/
theorem par_trans {wx wy px py qx qy : Int} (hw : ¬ (wx = 0 ∧ wy = 0)) (h : px * wy = py * wx) (g : wx * qy = wy * qx) : px * qy = py * qx := by
  have hpos := sum_pos hw
  have : (px * qy - py * qx) * (wx * wx + wy * wy) = 0 := by
    have e1 : (px * qy - py * qx) * (wx * wx + wy * wy) = (px * wy - py * wx) * (wx * qx + wy * qy) + (px * wx + py * wy) * (wx * qy - wy * qx) := by grind
    rw [e1, h, g]
    simp
  have := zero_of_mul this (by omega)
  omega
/-- opposite vectors lie on different sides -/
theorem opp_sides {ux uy vx vy dx dy : Int} (h : ux * vy = uy * vx) : (ux * ux + uy * uy) * ((dx * uy - dy * ux) * (dx * vy - dy * vx)) = (ux * vx + uy * vy) * ((dx * uy - dy * ux) * (dx * uy - dy * ux)) := by
  grind
/-- the points of two lines that are not parallel are one -/
theorem only_one {dx dy ex ey wx wy : Int} (hD : dx * ey - dy * ex ≠ 0) (h1 : dx * wy - dy * wx = 0) (h2 : ex * wy - ey * wx = 0) : wx = 0 ∧ wy = 0 := by
  have e1 : wx * (dx * ey - dy * ex) = 0 := by
    have : wx * (dx * ey - dy * ex) = ex * (dx * wy - dy * wx) - dx * (ex * wy - ey * wx) := by grind
    rw [this, h1, h2]
    simp
  have e2 : wy * (dx * ey - dy * ex) = 0 := by
    have : wy * (dx * ey - dy * ex) = ey * (dx * wy - dy * wx) - dy * (ex * wy - ey * wx) := by grind
    rw [this, h1, h2]
    simp
  exact ⟨zero_of_mul e1 hD, zero_of_mul e2 hD⟩
/-- the ends of each lie strictly on different sides of the other one -/
def Prt (ax ay bx bz cx cy dx dy : Int) : Prop := crs ax ay bx bz cx cy * crs ax ay bx bz dx dy < 0

theorem on_end_l {ax ay bx bz : Int} : On ax ay bx bz ax ay := by
  unfold On crs dotP
  constructor
  · grind
  · simp
theorem on_end_r {ax ay bx bz : Int} : On ax ay bx bz bx bz := by
  unfold On crs dotP
  constructor
  · grind
  · simp

/-- on the line of both of its own points -/
theorem on_degen {ax ay px py : Int} (h : On ax ay ax ay px py) : px = ax ∧ py = ay := by
  unfold On dotP at h
  have h1 := sq_nonneg (ax - px)
  have h2 := sq_nonneg (ay - py)
  have e1 : ax - px = 0 := by
    by_cases e : ax - px = 0
    · exact e
    · have := sq_pos e; omega
  have e2 : ay - py = 0 := by
    by_cases e : ay - py = 0
    · exact e
    · have := sq_pos e; omega
  omega

/-- strictly on different sides, where the lines are not parallel and the point is no end of the second segment -/
theorem parts_of {ax ay bx bz cx cy dx dy px py : Int} (hs : crs ax ay bx bz px py = 0) (ht : On cx cy dx dy px py)
    (hD : (bx - ax) * (dy - cy) - (bz - ay) * (dx - cx) ≠ 0) (hc : ¬ (cx = px ∧ cy = py)) (hd : ¬ (dx = px ∧ dy = py)) : Prt ax ay bx bz cx cy dx dy := by
  obtain ⟨h1, h2⟩ := ht
  unfold Prt
  have e1 : crs ax ay bx bz cx cy = (bx - ax) * (cy - py) - (bz - ay) * (cx - px) := by unfold crs at *; grind
  have e2 : crs ax ay bx bz dx dy = (bx - ax) * (dy - py) - (bz - ay) * (dx - px) := by unfold crs at *; grind
  have hx : (cx - px) * (dy - py) = (cy - py) * (dx - px) := by unfold crs at h1; grind
  have hD' : (bx - ax) * ((dy - py) - (cy - py)) - (bz - ay) * ((dx - px) - (cx - px)) ≠ 0 := by
    rw [show (dy - py) - (cy - py) = dy - cy by omega, show (dx - px) - (cx - px) = dx - cx by omega]
    exact hD
  have hc' : ¬ (cx - px = 0 ∧ cy - py = 0) := by omega
  have hd' : ¬ (dx - px = 0 ∧ dy - py = 0) := by omega
  unfold dotP at h2
  rw [e1, e2]
  clear e1 e2 hs h1 hD hc hd
  generalize bx - ax = ex at *
  generalize bz - ay = ey at *
  generalize cx - px = ux at *
  generalize cy - py = uy at *
  generalize dx - px = vx at *
  generalize dy - py = vy at *
  have hu := sum_pos hc'
  have hv := sum_pos hd'
  have hdot : ux * vx + uy * vy ≠ 0 := by
    intro h0
    have : (ux * ux + uy * uy) * (vx * vx + vy * vy) = 0 := by
      have e : (ux * ux + uy * uy) * (vx * vx + vy * vy) = (ux * vx + uy * vy) * (ux * vx + uy * vy) + (ux * vy - uy * vx) * (ux * vy - uy * vx) := by grind
      rw [e, h0, hx]
      simp
    have := Int.mul_pos hu hv
    omega
  have hcu : ex * uy - ey * ux ≠ 0 := by
    intro h0
    have g0 : ex * vy - ey * vx = 0 := by
      have := par_trans hc' (px := ex) (py := ey) (by omega) hx
      omega
    apply hD'
    have : ex * (vy - uy) - ey * (vx - ux) = (ex * vy - ey * vx) - (ex * uy - ey * ux) := by grind
    rw [this, g0, h0]
    rfl
  have hsq := sq_pos hcu
  refine neg_of_mul hu ?_
  rw [opp_sides hx]
  exact Int.mul_neg_of_neg_of_pos (by omega) hsq

/-- a common point: one of the common ends is not above it and one is not below it, or the segments cross -/
theorem common_split {ax ay bx bz cx cy dx dy px py : Int} (ha : Lm ax ay) (hb : Lm bx bz) (hc : Lm cx cy) (hd : Lm dx dy) (hp : Lm px py)
    (hs : On ax ay bx bz px py) (ht : On cx cy dx dy px py) :
    ((∃ x y, ((x = ax ∧ y = ay) ∨ (x = bx ∧ y = bz) ∨ (x = cx ∧ y = cy) ∨ (x = dx ∧ y = dy)) ∧ On ax ay bx bz x y ∧ On cx cy dx dy x y ∧ key x y ≤ key px py) ∧
     (∃ x y, ((x = ax ∧ y = ay) ∨ (x = bx ∧ y = bz) ∨ (x = cx ∧ y = cy) ∨ (x = dx ∧ y = dy)) ∧ On ax ay bx bz x y ∧ On cx cy dx dy x y ∧ key px py ≤ key x y)) ∨
    Prt ax ay bx bz cx cy dx dy ∧ Prt cx cy dx dy ax ay bx bz := by
  by_cases e1 : ax = px ∧ ay = py
  · obtain ⟨rfl, rfl⟩ := e1
    exact .inl ⟨⟨_, _, .inl ⟨rfl, rfl⟩, hs, ht, Int.le_refl _⟩, ⟨_, _, .inl ⟨rfl, rfl⟩, hs, ht, Int.le_refl _⟩⟩
  by_cases e2 : bx = px ∧ bz = py
  · obtain ⟨rfl, rfl⟩ := e2
    exact .inl ⟨⟨_, _, .inr (.inl ⟨rfl, rfl⟩), hs, ht, Int.le_refl _⟩, ⟨_, _, .inr (.inl ⟨rfl, rfl⟩), hs, ht, Int.le_refl _⟩⟩
  by_cases e3 : cx = px ∧ cy = py
  · obtain ⟨rfl, rfl⟩ := e3
    exact .inl ⟨⟨_, _, .inr (.inr (.inl ⟨rfl, rfl⟩)), hs, ht, Int.le_refl _⟩, ⟨_, _, .inr (.inr (.inl ⟨rfl, rfl⟩)), hs, ht, Int.le_refl _⟩⟩
  by_cases e4 : dx = px ∧ dy = py
  · obtain ⟨rfl, rfl⟩ := e4
    exact .inl ⟨⟨_, _, .inr (.inr (.inr ⟨rfl, rfl⟩)), hs, ht, Int.le_refl _⟩, ⟨_, _, .inr (.inr (.inr ⟨rfl, rfl⟩)), hs, ht, Int.le_refl _⟩⟩
  by_cases hD : (bx - ax) * (dy - cy) - (bz - ay) * (dx - cx) = 0
  · left
    have hs0 : ¬ (ax - bx = 0 ∧ ay - bz = 0) := by
      intro h
      obtain ⟨rfl, rfl⟩ : ax = bx ∧ ay = bz := by omega
      have := on_degen hs
      omega
    have ht0 : ¬ (cx - dx = 0 ∧ cy - dy = 0) := by
      intro h
      obtain ⟨rfl, rfl⟩ : cx = dx ∧ cy = dy := by omega
      have := on_degen ht
      omega
    obtain ⟨h1, h1'⟩ := (on_btw ha hp).1 hs
    obtain ⟨g1, g1'⟩ := (on_btw hc hp).1 ht
    -- all four ends are on both lines
    have hpar : (bx - ax) * (cy - dy) = (bz - ay) * (cx - dx) := by grind
    have hc1 : crs ax ay bx bz cx cy = 0 := by
      have t := par_trans ht0 (px := bx - ax) (py := bz - ay) hpar (qx := cx - px) (qy := cy - py) (by unfold crs at g1; grind)
      unfold crs at *
      grind
    have hd1 : crs ax ay bx bz dx dy = 0 := by
      have t := par_trans ht0 (px := bx - ax) (py := bz - ay) hpar (qx := dx - px) (qy := dy - py) (by unfold crs at g1; grind)
      unfold crs at *
      grind
    have ha1 : crs cx cy dx dy ax ay = 0 := by
      have t := par_trans hs0 (px := dx - cx) (py := dy - cy) (by grind) (qx := ax - px) (qy := ay - py) (by unfold crs at h1; grind)
      unfold crs at *
      grind
    have hb1 : crs cx cy dx dy bx bz = 0 := by
      have t := par_trans hs0 (px := dx - cx) (py := dy - cy) (by grind) (qx := bx - px) (qy := bz - py) (by unfold crs at h1; grind)
      unfold crs at *
      grind
    have oc := @on_btw ax ay bx bz cx cy ha hc
    have od := @on_btw ax ay bx bz dx dy ha hd
    have oa := @on_btw cx cy dx dy ax ay hc ha
    have ob := @on_btw cx cy dx dy bx bz hc hb
    have sa := @on_end_l ax ay bx bz
    have sb := @on_end_r ax ay bx bz
    have tc := @on_end_l cx cy dx dy
    have td := @on_end_r cx cy dx dy
    simp only [hc1, hd1, ha1, hb1, true_and] at oc od oa ob
    unfold Btw at *
    have lo : (key ax ay ≤ key px py ∧ On cx cy dx dy ax ay) ∨ (key bx bz ≤ key px py ∧ On cx cy dx dy bx bz) ∨ (key cx cy ≤ key px py ∧ On ax ay bx bz cx cy) ∨ (key dx dy ≤ key px py ∧ On ax ay bx bz dx dy) := by
      rw [oa, ob, oc, od]
      omega
    have hi : (key px py ≤ key ax ay ∧ On cx cy dx dy ax ay) ∨ (key px py ≤ key bx bz ∧ On cx cy dx dy bx bz) ∨ (key px py ≤ key cx cy ∧ On ax ay bx bz cx cy) ∨ (key px py ≤ key dx dy ∧ On ax ay bx bz dx dy) := by
      rw [oa, ob, oc, od]
      omega
    refine ⟨?_, ?_⟩
    · rcases lo with ⟨k, o⟩ | ⟨k, o⟩ | ⟨k, o⟩ | ⟨k, o⟩
      · exact ⟨_, _, .inl ⟨rfl, rfl⟩, sa, o, k⟩
      · exact ⟨_, _, .inr (.inl ⟨rfl, rfl⟩), sb, o, k⟩
      · exact ⟨_, _, .inr (.inr (.inl ⟨rfl, rfl⟩)), o, tc, k⟩
      · exact ⟨_, _, .inr (.inr (.inr ⟨rfl, rfl⟩)), o, td, k⟩
    · rcases hi with ⟨k, o⟩ | ⟨k, o⟩ | ⟨k, o⟩ | ⟨k, o⟩
      · exact ⟨_, _, .inl ⟨rfl, rfl⟩, sa, o, k⟩
      · exact ⟨_, _, .inr (.inl ⟨rfl, rfl⟩), sb, o, k⟩
      · exact ⟨_, _, .inr (.inr (.inl ⟨rfl, rfl⟩)), o, tc, k⟩
      · exact ⟨_, _, .inr (.inr (.inr ⟨rfl, rfl⟩)), o, td, k⟩
  · right
    exact ⟨parts_of hs.1 ht hD e3 e4, parts_of ht.1 hs (by grind) e1 e2⟩
/-- an end of the second one on the first one: not strictly on different sides -/
theorem not_parts {ax ay bx bz cx cy dx dy x y : Int} (h : crs ax ay bx bz x y = 0) (e : (x = cx ∧ y = cy) ∨ (x = dx ∧ y = dy)) : ¬ Prt ax ay bx bz cx cy dx dy := by
  unfold Prt
  rcases e with ⟨rfl, rfl⟩ | ⟨rfl, rfl⟩ <;> rw [h] <;> simp
/-- a common end: the segments do not cross -/
theorem end_not_cross {ax ay bx bz cx cy dx dy x y : Int} (e : (x = ax ∧ y = ay) ∨ (x = bx ∧ y = bz) ∨ (x = cx ∧ y = cy) ∨ (x = dx ∧ y = dy)) (hs : On ax ay bx bz x y) (ht : On cx cy dx dy x y) :
    ¬ (Prt ax ay bx bz cx cy dx dy ∧ Prt cx cy dx dy ax ay bx bz) := by
  rintro ⟨h, g⟩
  rcases e with e | e | e | e
  · exact not_parts ht.1 (.inl e) g
  · exact not_parts ht.1 (.inr e) g
  · exact not_parts hs.1 (.inl e) h
  · exact not_parts hs.1 (.inr e) h
/-- two different points of a segment: the third one is on their line -/
theorem on_line {ax ay bx bz x y z t px py : Int} (h1 : On ax ay bx bz x y) (h2 : On ax ay bx bz z t) (h3 : On ax ay bx bz px py) (hne : ¬ (x = z ∧ y = t)) : crs x y z t px py = 0 := by
  have hs0 : ¬ (bx - ax = 0 ∧ bz - ay = 0) := by
    intro h
    obtain ⟨rfl, rfl⟩ : bx = ax ∧ bz = ay := by omega
    have := on_degen h1
    have := on_degen h2
    omega
  obtain ⟨h1, _⟩ := h1
  obtain ⟨h2, _⟩ := h2
  obtain ⟨h3, _⟩ := h3
  have g1 : (bx - ax) * (t - y) = (bz - ay) * (z - x) := by unfold crs at *; grind
  have g2 : (bx - ax) * (py - y) = (bz - ay) * (px - x) := by unfold crs at *; grind
  have := par_trans hs0 (px := z - x) (py := t - y) (by grind) g2
  unfold crs
  omega
/-- between two points of a segment -/
theorem on_mid {ax ay bx bz x y z t px py : Int} (ha : Lm ax ay) (hx : Lm x y) (hz : Lm z t) (hp : Lm px py) (h1 : On ax ay bx bz x y) (h2 : On ax ay bx bz z t) (h3 : On x y z t px py) (hne : ¬ (x = z ∧ y = t)) : On ax ay bx bz px py := by
  have k1 := ((on_btw ha hx).1 h1)
  have k2 := ((on_btw ha hz).1 h2)
  have k3 := ((on_btw hx hp).1 h3)
  refine (on_btw ha hp).2 ⟨?_, ?_⟩
  · have w0 : ¬ (z - x = 0 ∧ t - y = 0) := by omega
    have g0 : (bx - ax) * (t - y) = (bz - ay) * (z - x) := by
      have := k1.1
      have := k2.1
      unfold crs at *
      grind
    have := par_trans w0 (px := bx - ax) (py := bz - ay) g0 (qx := px - x) (qy := py - y) (by
      have := k3.1
      unfold crs at this
      omega)
    have := k1.1
    unfold crs at *
    grind
  · have := k1.2
    have := k2.2
    have := k3.2
    unfold Btw at *
    omega
end Go.Proofs.Ytlogihcmmoldkaa.G
