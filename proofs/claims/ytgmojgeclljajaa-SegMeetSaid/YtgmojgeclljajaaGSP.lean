/-
  The reference's At: what it returns. No condition.
-/
import Derived.Test.YtgmojgeclljajaaGSO
import Derived.Deep.RegionHeld3
import Derived.Deep.CutRange
namespace Go.Proofs.Ytgmojgeclljajaa.W
open Go.RowKit Go.Proofs.Ytgmojgeclljajaa.V Go.Proofs.Ytgmojgeclljajaa.G

set_option maxRecDepth 100000 in
set_option maxHeartbeats 6400000 in
theorem rat_none (ax ay bx bz cx cy dx dy k : Int) (w : World) (h1 : k ≠ 1) (h2 : k ≠ 2) (c1 : ∀ w1, Calls Try.prog 57 #[sV ax ay bx bz, sV cx cy dx dy] w1 fun e w' => e = .returned (.int .i64 k) ∧ Nw w1 w') :
    Calls Try.prog 51 #[sV ax ay bx bz, sV cx cy dx dy] w fun e w' => e = .returned (.tuple #[pV 0 0 0, .bool false]) ∧ Nw w w' := by
  have hF : ∀ w', Nw (((w.alloc (.cells #[.int .i64 ax, .int .i64 ay, .int .i64 bx, .int .i64 bz] 51)).alloc (.cells #[.int .i64 cx, .int .i64 cy, .int .i64 dx, .int .i64 dy] 51)).alloc (.cells #[.int .i64 0, .int .i64 0, .int .i64 0] 53)) w' → Blk w' w.heap.size 51 #[.int .i64 ax, .int .i64 ay, .int .i64 bx, .int .i64 bz] ∧ Blk w' (w.heap.size + 1) 51 #[.int .i64 cx, .int .i64 cy, .int .i64 dx, .int .i64 dy] ∧ Blk w' (w.heap.size + 1 + 1) 53 #[.int .i64 0, .int .i64 0, .int .i64 0] := fun w' h => ⟨(((Blk.new_at w 51 #[.int .i64 ax, .int .i64 ay, .int .i64 bx, .int .i64 bz] (n := w.heap.size) rfl).alloc _).alloc _).kp h id, ((Blk.new_at _ 51 #[.int .i64 cx, .int .i64 cy, .int .i64 dx, .int .i64 dy] (n := w.heap.size + 1) (by simp)).alloc _).kp h id, (Blk.new_at _ 53 #[.int .i64 0, .int .i64 0, .int .i64 0] (n := w.heap.size + 1 + 1) (by simp)).kp h id⟩
  have HF := Lib.hid hF
  have HW := Lib.hid (show Nw w (((w.alloc (.cells #[.int .i64 ax, .int .i64 ay, .int .i64 bx, .int .i64 bz] 51)).alloc (.cells #[.int .i64 cx, .int .i64 cy, .int .i64 dx, .int .i64 dy] 51)).alloc (.cells #[.int .i64 0, .int .i64 0, .int .i64 0] 53)) from ((nw_alloc _ _).alloc _).alloc _)
  have HRL := Lib.hid (show w.heap.size ≤ w.heap.size + 1 + 1 from by omega)
  clear hF
  have q0 := fun p : KeptW (((w.alloc (.cells #[.int .i64 ax, .int .i64 ay, .int .i64 bx, .int .i64 bz] 51)).alloc (.cells #[.int .i64 cx, .int .i64 cy, .int .i64 dx, .int .i64 dy] 51)).alloc (.cells #[.int .i64 0, .int .i64 0, .int .i64 0] 53)) => (HF.out p.wd p.since).1.cell 0
  have q1 := fun p : KeptW (((w.alloc (.cells #[.int .i64 ax, .int .i64 ay, .int .i64 bx, .int .i64 bz] 51)).alloc (.cells #[.int .i64 cx, .int .i64 cy, .int .i64 dx, .int .i64 dy] 51)).alloc (.cells #[.int .i64 0, .int .i64 0, .int .i64 0] 53)) => (HF.out p.wd p.since).1.cell 1
  have q2 := fun p : KeptW (((w.alloc (.cells #[.int .i64 ax, .int .i64 ay, .int .i64 bx, .int .i64 bz] 51)).alloc (.cells #[.int .i64 cx, .int .i64 cy, .int .i64 dx, .int .i64 dy] 51)).alloc (.cells #[.int .i64 0, .int .i64 0, .int .i64 0] 53)) => (HF.out p.wd p.since).1.cell 2
  have q3 := fun p : KeptW (((w.alloc (.cells #[.int .i64 ax, .int .i64 ay, .int .i64 bx, .int .i64 bz] 51)).alloc (.cells #[.int .i64 cx, .int .i64 cy, .int .i64 dx, .int .i64 dy] 51)).alloc (.cells #[.int .i64 0, .int .i64 0, .int .i64 0] 53)) => (HF.out p.wd p.since).1.cell 3
  have q4 := fun p : KeptW (((w.alloc (.cells #[.int .i64 ax, .int .i64 ay, .int .i64 bx, .int .i64 bz] 51)).alloc (.cells #[.int .i64 cx, .int .i64 cy, .int .i64 dx, .int .i64 dy] 51)).alloc (.cells #[.int .i64 0, .int .i64 0, .int .i64 0] 53)) => (HF.out p.wd p.since).2.1.cell 0
  have q5 := fun p : KeptW (((w.alloc (.cells #[.int .i64 ax, .int .i64 ay, .int .i64 bx, .int .i64 bz] 51)).alloc (.cells #[.int .i64 cx, .int .i64 cy, .int .i64 dx, .int .i64 dy] 51)).alloc (.cells #[.int .i64 0, .int .i64 0, .int .i64 0] 53)) => (HF.out p.wd p.since).2.1.cell 1
  have q6 := fun p : KeptW (((w.alloc (.cells #[.int .i64 ax, .int .i64 ay, .int .i64 bx, .int .i64 bz] 51)).alloc (.cells #[.int .i64 cx, .int .i64 cy, .int .i64 dx, .int .i64 dy] 51)).alloc (.cells #[.int .i64 0, .int .i64 0, .int .i64 0] 53)) => (HF.out p.wd p.since).2.1.cell 2
  have q7 := fun p : KeptW (((w.alloc (.cells #[.int .i64 ax, .int .i64 ay, .int .i64 bx, .int .i64 bz] 51)).alloc (.cells #[.int .i64 cx, .int .i64 cy, .int .i64 dx, .int .i64 dy] 51)).alloc (.cells #[.int .i64 0, .int .i64 0, .int .i64 0] 53)) => (HF.out p.wd p.since).2.1.cell 3
  have q8 := fun p : KeptW (((w.alloc (.cells #[.int .i64 ax, .int .i64 ay, .int .i64 bx, .int .i64 bz] 51)).alloc (.cells #[.int .i64 cx, .int .i64 cy, .int .i64 dx, .int .i64 dy] 51)).alloc (.cells #[.int .i64 0, .int .i64 0, .int .i64 0] 53)) => (HF.out p.wd p.since).2.2.cell 0
  have q9 := fun p : KeptW (((w.alloc (.cells #[.int .i64 ax, .int .i64 ay, .int .i64 bx, .int .i64 bz] 51)).alloc (.cells #[.int .i64 cx, .int .i64 cy, .int .i64 dx, .int .i64 dy] 51)).alloc (.cells #[.int .i64 0, .int .i64 0, .int .i64 0] 53)) => (HF.out p.wd p.since).2.2.frozen 0
  have q10 := fun p : KeptW (((w.alloc (.cells #[.int .i64 ax, .int .i64 ay, .int .i64 bx, .int .i64 bz] 51)).alloc (.cells #[.int .i64 cx, .int .i64 cy, .int .i64 dx, .int .i64 dy] 51)).alloc (.cells #[.int .i64 0, .int .i64 0, .int .i64 0] 53)) => (HF.out p.wd p.since).2.2.cell 1
  have q11 := fun p : KeptW (((w.alloc (.cells #[.int .i64 ax, .int .i64 ay, .int .i64 bx, .int .i64 bz] 51)).alloc (.cells #[.int .i64 cx, .int .i64 cy, .int .i64 dx, .int .i64 dy] 51)).alloc (.cells #[.int .i64 0, .int .i64 0, .int .i64 0] 53)) => (HF.out p.wd p.since).2.2.frozen 1
  have q12 := fun p : KeptW (((w.alloc (.cells #[.int .i64 ax, .int .i64 ay, .int .i64 bx, .int .i64 bz] 51)).alloc (.cells #[.int .i64 cx, .int .i64 cy, .int .i64 dx, .int .i64 dy] 51)).alloc (.cells #[.int .i64 0, .int .i64 0, .int .i64 0] 53)) => (HF.out p.wd p.since).2.2.cell 2
  have q13 := fun p : KeptW (((w.alloc (.cells #[.int .i64 ax, .int .i64 ay, .int .i64 bx, .int .i64 bz] 51)).alloc (.cells #[.int .i64 cx, .int .i64 cy, .int .i64 dx, .int .i64 dy] 51)).alloc (.cells #[.int .i64 0, .int .i64 0, .int .i64 0] 53)) => (HF.out p.wd p.since).2.2.frozen 2
  have e1 : (k == 1) = false := by simp [h1]
  have e2 : (k == 2) = false := by simp [h2]
  clear h1 h2
  go_enter Try.func51, Try.ntmps51
  go_wp2_with (first | (go_at_call 57; ((with_reducible refine (Calls.kept_first (c1 _)).mono ?_); rintro e _ ⟨rfl, p, rfl⟩)) | fail)
  generalize hw9 : World.setCell _ _ _ = w9
  have h9 : Blk w9 (w.heap.size + 1 + 1) 53 #[.int .i64 0, .int .i64 0, .int .i64 0] := by rw [← hw9]; exact ((((HF.out _ p.since).2.2).set_ 0 _).set_ 1 _).set_ 2 _
  have hn9 : Nw w w9 := by rw [← hw9]; exact ((((HW.out.tr p.since).new HRL.out _ _).new HRL.out _ _).new HRL.out _ _)
  obtain ⟨x0, x1, x2, _, _, _⟩ := h9.three
  exact bodyPost_ret (v := .tuple #[pV 0 0 0, .bool false]) (by simp [results, Try.results51, go_sem, x0, x1, x2]) rfl ⟨rfl, hn9⟩

set_option maxRecDepth 100000 in
set_option maxHeartbeats 6400000 in
theorem rat_touch (ax ay bx bz cx cy dx dy f1 f2 : Int) (L : List (Int × Int)) (hL : 0 < L.length) (hf : L[0]? = some (f1, f2)) (w : World) (c1 : ∀ w1, Calls Try.prog 57 #[sV ax ay bx bz, sV cx cy dx dy] w1 fun e w' => e = .returned (.int .i64 1) ∧ Nw w1 w')
    (c3 : ∀ w1, Calls Try.prog 82 #[sV ax ay bx bz, sV cx cy dx dy] w1 fun e w' => ∃ v', e = .returned v' ∧ SrcV w' v' L ∧ Nw w1 w') :
    Calls Try.prog 51 #[sV ax ay bx bz, sV cx cy dx dy] w fun e w' => e = .returned (.tuple #[pV f1 f2 1, .bool true]) ∧ Nw w w' := by
  have c4 := fun w1 => rpointOf_any f1 f2 w1
  have hF : ∀ w', Nw (((w.alloc (.cells #[.int .i64 ax, .int .i64 ay, .int .i64 bx, .int .i64 bz] 51)).alloc (.cells #[.int .i64 cx, .int .i64 cy, .int .i64 dx, .int .i64 dy] 51)).alloc (.cells #[.int .i64 0, .int .i64 0, .int .i64 0] 53)) w' → Blk w' w.heap.size 51 #[.int .i64 ax, .int .i64 ay, .int .i64 bx, .int .i64 bz] ∧ Blk w' (w.heap.size + 1) 51 #[.int .i64 cx, .int .i64 cy, .int .i64 dx, .int .i64 dy] ∧ Blk w' (w.heap.size + 1 + 1) 53 #[.int .i64 0, .int .i64 0, .int .i64 0] := fun w' h => ⟨(((Blk.new_at w 51 #[.int .i64 ax, .int .i64 ay, .int .i64 bx, .int .i64 bz] (n := w.heap.size) rfl).alloc _).alloc _).kp h id, ((Blk.new_at _ 51 #[.int .i64 cx, .int .i64 cy, .int .i64 dx, .int .i64 dy] (n := w.heap.size + 1) (by simp)).alloc _).kp h id, (Blk.new_at _ 53 #[.int .i64 0, .int .i64 0, .int .i64 0] (n := w.heap.size + 1 + 1) (by simp)).kp h id⟩
  have HF := Lib.hid hF
  have HW := Lib.hid (show Nw w (((w.alloc (.cells #[.int .i64 ax, .int .i64 ay, .int .i64 bx, .int .i64 bz] 51)).alloc (.cells #[.int .i64 cx, .int .i64 cy, .int .i64 dx, .int .i64 dy] 51)).alloc (.cells #[.int .i64 0, .int .i64 0, .int .i64 0] 53)) from ((nw_alloc _ _).alloc _).alloc _)
  have HRL := Lib.hid (show w.heap.size ≤ w.heap.size + 1 + 1 from by omega)
  clear hF
  have q0 := fun p : KeptW (((w.alloc (.cells #[.int .i64 ax, .int .i64 ay, .int .i64 bx, .int .i64 bz] 51)).alloc (.cells #[.int .i64 cx, .int .i64 cy, .int .i64 dx, .int .i64 dy] 51)).alloc (.cells #[.int .i64 0, .int .i64 0, .int .i64 0] 53)) => (HF.out p.wd p.since).1.cell 0
  have q1 := fun p : KeptW (((w.alloc (.cells #[.int .i64 ax, .int .i64 ay, .int .i64 bx, .int .i64 bz] 51)).alloc (.cells #[.int .i64 cx, .int .i64 cy, .int .i64 dx, .int .i64 dy] 51)).alloc (.cells #[.int .i64 0, .int .i64 0, .int .i64 0] 53)) => (HF.out p.wd p.since).1.cell 1
  have q2 := fun p : KeptW (((w.alloc (.cells #[.int .i64 ax, .int .i64 ay, .int .i64 bx, .int .i64 bz] 51)).alloc (.cells #[.int .i64 cx, .int .i64 cy, .int .i64 dx, .int .i64 dy] 51)).alloc (.cells #[.int .i64 0, .int .i64 0, .int .i64 0] 53)) => (HF.out p.wd p.since).1.cell 2
  have q3 := fun p : KeptW (((w.alloc (.cells #[.int .i64 ax, .int .i64 ay, .int .i64 bx, .int .i64 bz] 51)).alloc (.cells #[.int .i64 cx, .int .i64 cy, .int .i64 dx, .int .i64 dy] 51)).alloc (.cells #[.int .i64 0, .int .i64 0, .int .i64 0] 53)) => (HF.out p.wd p.since).1.cell 3
  have q4 := fun p : KeptW (((w.alloc (.cells #[.int .i64 ax, .int .i64 ay, .int .i64 bx, .int .i64 bz] 51)).alloc (.cells #[.int .i64 cx, .int .i64 cy, .int .i64 dx, .int .i64 dy] 51)).alloc (.cells #[.int .i64 0, .int .i64 0, .int .i64 0] 53)) => (HF.out p.wd p.since).2.1.cell 0
  have q5 := fun p : KeptW (((w.alloc (.cells #[.int .i64 ax, .int .i64 ay, .int .i64 bx, .int .i64 bz] 51)).alloc (.cells #[.int .i64 cx, .int .i64 cy, .int .i64 dx, .int .i64 dy] 51)).alloc (.cells #[.int .i64 0, .int .i64 0, .int .i64 0] 53)) => (HF.out p.wd p.since).2.1.cell 1
  have q6 := fun p : KeptW (((w.alloc (.cells #[.int .i64 ax, .int .i64 ay, .int .i64 bx, .int .i64 bz] 51)).alloc (.cells #[.int .i64 cx, .int .i64 cy, .int .i64 dx, .int .i64 dy] 51)).alloc (.cells #[.int .i64 0, .int .i64 0, .int .i64 0] 53)) => (HF.out p.wd p.since).2.1.cell 2
  have q7 := fun p : KeptW (((w.alloc (.cells #[.int .i64 ax, .int .i64 ay, .int .i64 bx, .int .i64 bz] 51)).alloc (.cells #[.int .i64 cx, .int .i64 cy, .int .i64 dx, .int .i64 dy] 51)).alloc (.cells #[.int .i64 0, .int .i64 0, .int .i64 0] 53)) => (HF.out p.wd p.since).2.1.cell 3
  have q8 := fun p : KeptW (((w.alloc (.cells #[.int .i64 ax, .int .i64 ay, .int .i64 bx, .int .i64 bz] 51)).alloc (.cells #[.int .i64 cx, .int .i64 cy, .int .i64 dx, .int .i64 dy] 51)).alloc (.cells #[.int .i64 0, .int .i64 0, .int .i64 0] 53)) => (HF.out p.wd p.since).2.2.cell 0
  have q9 := fun p : KeptW (((w.alloc (.cells #[.int .i64 ax, .int .i64 ay, .int .i64 bx, .int .i64 bz] 51)).alloc (.cells #[.int .i64 cx, .int .i64 cy, .int .i64 dx, .int .i64 dy] 51)).alloc (.cells #[.int .i64 0, .int .i64 0, .int .i64 0] 53)) => (HF.out p.wd p.since).2.2.frozen 0
  have q10 := fun p : KeptW (((w.alloc (.cells #[.int .i64 ax, .int .i64 ay, .int .i64 bx, .int .i64 bz] 51)).alloc (.cells #[.int .i64 cx, .int .i64 cy, .int .i64 dx, .int .i64 dy] 51)).alloc (.cells #[.int .i64 0, .int .i64 0, .int .i64 0] 53)) => (HF.out p.wd p.since).2.2.cell 1
  have q11 := fun p : KeptW (((w.alloc (.cells #[.int .i64 ax, .int .i64 ay, .int .i64 bx, .int .i64 bz] 51)).alloc (.cells #[.int .i64 cx, .int .i64 cy, .int .i64 dx, .int .i64 dy] 51)).alloc (.cells #[.int .i64 0, .int .i64 0, .int .i64 0] 53)) => (HF.out p.wd p.since).2.2.frozen 1
  have q12 := fun p : KeptW (((w.alloc (.cells #[.int .i64 ax, .int .i64 ay, .int .i64 bx, .int .i64 bz] 51)).alloc (.cells #[.int .i64 cx, .int .i64 cy, .int .i64 dx, .int .i64 dy] 51)).alloc (.cells #[.int .i64 0, .int .i64 0, .int .i64 0] 53)) => (HF.out p.wd p.since).2.2.cell 2
  have q13 := fun p : KeptW (((w.alloc (.cells #[.int .i64 ax, .int .i64 ay, .int .i64 bx, .int .i64 bz] 51)).alloc (.cells #[.int .i64 cx, .int .i64 cy, .int .i64 dx, .int .i64 dy] 51)).alloc (.cells #[.int .i64 0, .int .i64 0, .int .i64 0] 53)) => (HF.out p.wd p.since).2.2.frozen 2
  obtain ⟨m, hm⟩ : ∃ m, L.length = m + 1 := ⟨L.length - 1, by omega⟩
  have HM := Lib.hid hm
  have HL := Lib.hid (show L[0]? = some (f1, f2) ∧ ∃ l, L[m]? = some l from ⟨hf, ⟨L[m]'(by omega), List.getElem?_eq_getElem _⟩⟩)
  clear hL hf hm
  go_enter Try.func51, Try.ntmps51
  go_wp2_with (first | (go_at_call 57; ((with_reducible refine (Calls.kept_first (c1 _)).mono ?_); rintro e _ ⟨rfl, p, rfl⟩)) | fail)
  refine (c3 _).mono ?_
  rintro e w3 ⟨v3, rfl, hs3, hk3⟩
  have hs3 : Src w3 2 v3 (m + 1) (L.flatMap vC) := by have h := hs3; unfold SrcV at h; rw [HM.out] at h; exact h
  obtain ⟨A3, cc3, rfl⟩ := hs3.shape
  obtain ⟨l, hl⟩ := HL.out.2
  obtain ⟨g, o, rfl, e0, e1, _, _, _⟩ := src_ends hs3 HL.out.1 hl
  simp only at e0 e1
  have HN := Lib.hid (p.since.tr hk3)
  clear hs3 hk3 c1 c3 hl q0 q1 q2 q3 q4 q5 q6 q7 q8 q9 q10 q11 q12 q13
  have q0 := fun p : KeptW w3 => (HF.out p.wd (HN.out.tr p.since)).1.cell 0
  have q1 := fun p : KeptW w3 => (HF.out p.wd (HN.out.tr p.since)).1.cell 1
  have q2 := fun p : KeptW w3 => (HF.out p.wd (HN.out.tr p.since)).1.cell 2
  have q3 := fun p : KeptW w3 => (HF.out p.wd (HN.out.tr p.since)).1.cell 3
  have q4 := fun p : KeptW w3 => (HF.out p.wd (HN.out.tr p.since)).2.1.cell 0
  have q5 := fun p : KeptW w3 => (HF.out p.wd (HN.out.tr p.since)).2.1.cell 1
  have q6 := fun p : KeptW w3 => (HF.out p.wd (HN.out.tr p.since)).2.1.cell 2
  have q7 := fun p : KeptW w3 => (HF.out p.wd (HN.out.tr p.since)).2.1.cell 3
  have q8 := fun p : KeptW w3 => (HF.out p.wd (HN.out.tr p.since)).2.2.cell 0
  have q9 := fun p : KeptW w3 => (HF.out p.wd (HN.out.tr p.since)).2.2.frozen 0
  have q10 := fun p : KeptW w3 => (HF.out p.wd (HN.out.tr p.since)).2.2.cell 1
  have q11 := fun p : KeptW w3 => (HF.out p.wd (HN.out.tr p.since)).2.2.frozen 1
  have q12 := fun p : KeptW w3 => (HF.out p.wd (HN.out.tr p.since)).2.2.cell 2
  have q13 := fun p : KeptW w3 => (HF.out p.wd (HN.out.tr p.since)).2.2.frozen 2
  have z0 := q0 ⟨w3, Kp.refl _ _⟩
  have z1 := q1 ⟨w3, Kp.refl _ _⟩
  have z2 := q2 ⟨w3, Kp.refl _ _⟩
  have z3 := q3 ⟨w3, Kp.refl _ _⟩
  have z4 := q4 ⟨w3, Kp.refl _ _⟩
  have z5 := q5 ⟨w3, Kp.refl _ _⟩
  have z6 := q6 ⟨w3, Kp.refl _ _⟩
  have z7 := q7 ⟨w3, Kp.refl _ _⟩
  have z8 := q8 ⟨w3, Kp.refl _ _⟩
  have z9 := q9 ⟨w3, Kp.refl _ _⟩
  have z10 := q10 ⟨w3, Kp.refl _ _⟩
  have z11 := q11 ⟨w3, Kp.refl _ _⟩
  have z12 := q12 ⟨w3, Kp.refl _ _⟩
  have z13 := q13 ⟨w3, Kp.refl _ _⟩
  have j2 : (0 : Int) < ((m + 1 : Nat) : Int) := by omega
  have j6 : (0 : Int) < (m : Int) + 1 := by omega
  go_wp2_with (first | (go_at_call 65; ((with_reducible refine (Calls.kept_first (c4 _)).mono ?_); rintro e _ ⟨rfl, p, rfl⟩)) | fail)
  generalize hw9 : World.setCell _ _ _ = w9
  have h9 : Blk w9 (w.heap.size + 1 + 1) 53 #[.int .i64 f1, .int .i64 f2, .int .i64 1] := by rw [← hw9]; exact ((((HF.out _ (HN.out.tr p.since)).2.2).set_ 0 _).set_ 1 _).set_ 2 _
  have hn9 : Nw w w9 := by rw [← hw9]; exact (((((HW.out.tr HN.out).tr p.since).new HRL.out _ _).new HRL.out _ _).new HRL.out _ _)
  obtain ⟨x0, x1, x2, _, _, _⟩ := h9.three
  exact bodyPost_ret (v := .tuple #[pV f1 f2 1, .bool true]) (by simp [results, Try.results51, go_sem, x0, x1, x2]) rfl ⟨rfl, hn9⟩

set_option maxRecDepth 100000 in
set_option maxHeartbeats 6400000 in
theorem rat_cross (ax ay bx bz cx cy dx dy x1 y1 x2 y2 x3 y3 D N p1 p2 p3 p4 X Y r1 r2 r3 : Int) (w : World) (c1 : ∀ w1, Calls Try.prog 57 #[sV ax ay bx bz, sV cx cy dx dy] w1 fun e w' => e = .returned (.int .i64 2) ∧ Nw w1 w')
    (c5 : ∀ w1, Calls Try.prog 22 #[vV bx bz, vV ax ay] w1 fun e w' => e = .returned (vV x1 y1) ∧ Nw w1 w') (c6 : ∀ w1, Calls Try.prog 22 #[vV dx dy, vV cx cy] w1 fun e w' => e = .returned (vV x2 y2) ∧ Nw w1 w')
    (c7 : ∀ w1, Calls Try.prog 30 #[vV x1 y1, vV x2 y2] w1 fun e w' => e = .returned (.int .i64 D) ∧ Nw w1 w') (c8 : ∀ w1, Calls Try.prog 22 #[vV cx cy, vV ax ay] w1 fun e w' => e = .returned (vV x3 y3) ∧ Nw w1 w')
    (c9 : ∀ w1, Calls Try.prog 30 #[vV x3 y3, vV x2 y2] w1 fun e w' => e = .returned (.int .i64 N) ∧ Nw w1 w')
    (h1 : wrap64 (ax * D) = p1) (h2 : wrap64 (x1 * N) = p2) (h3 : wrap64 (p1 + p2) = X) (h4 : wrap64 (ay * D) = p3) (h5 : wrap64 (y1 * N) = p4) (h6 : wrap64 (p3 + p4) = Y)
    (cL : ∀ w1, Calls Try.prog 83 #[.int .i64 X, .int .i64 Y, .int .i64 D] w1 fun e w' => e = .returned (pV r1 r2 r3) ∧ Nw w1 w') :
    Calls Try.prog 51 #[sV ax ay bx bz, sV cx cy dx dy] w fun e w' => e = .returned (.tuple #[pV r1 r2 r3, .bool true]) ∧ Nw w w' := by
  have hmix := mixed7
  have hF : ∀ w', Nw (((w.alloc (.cells #[.int .i64 ax, .int .i64 ay, .int .i64 bx, .int .i64 bz] 51)).alloc (.cells #[.int .i64 cx, .int .i64 cy, .int .i64 dx, .int .i64 dy] 51)).alloc (.cells #[.int .i64 0, .int .i64 0, .int .i64 0] 53)) w' → Blk w' w.heap.size 51 #[.int .i64 ax, .int .i64 ay, .int .i64 bx, .int .i64 bz] ∧ Blk w' (w.heap.size + 1) 51 #[.int .i64 cx, .int .i64 cy, .int .i64 dx, .int .i64 dy] ∧ Blk w' (w.heap.size + 1 + 1) 53 #[.int .i64 0, .int .i64 0, .int .i64 0] := fun w' h => ⟨(((Blk.new_at w 51 #[.int .i64 ax, .int .i64 ay, .int .i64 bx, .int .i64 bz] (n := w.heap.size) rfl).alloc _).alloc _).kp h id, ((Blk.new_at _ 51 #[.int .i64 cx, .int .i64 cy, .int .i64 dx, .int .i64 dy] (n := w.heap.size + 1) (by simp)).alloc _).kp h id, (Blk.new_at _ 53 #[.int .i64 0, .int .i64 0, .int .i64 0] (n := w.heap.size + 1 + 1) (by simp)).kp h id⟩
  have HF := Lib.hid hF
  have HW := Lib.hid (show Nw w (((w.alloc (.cells #[.int .i64 ax, .int .i64 ay, .int .i64 bx, .int .i64 bz] 51)).alloc (.cells #[.int .i64 cx, .int .i64 cy, .int .i64 dx, .int .i64 dy] 51)).alloc (.cells #[.int .i64 0, .int .i64 0, .int .i64 0] 53)) from ((nw_alloc _ _).alloc _).alloc _)
  have HRL := Lib.hid (show w.heap.size ≤ w.heap.size + 1 + 1 from by omega)
  clear hF
  have q0 := fun p : KeptW (((w.alloc (.cells #[.int .i64 ax, .int .i64 ay, .int .i64 bx, .int .i64 bz] 51)).alloc (.cells #[.int .i64 cx, .int .i64 cy, .int .i64 dx, .int .i64 dy] 51)).alloc (.cells #[.int .i64 0, .int .i64 0, .int .i64 0] 53)) => (HF.out p.wd p.since).1.cell 0
  have q1 := fun p : KeptW (((w.alloc (.cells #[.int .i64 ax, .int .i64 ay, .int .i64 bx, .int .i64 bz] 51)).alloc (.cells #[.int .i64 cx, .int .i64 cy, .int .i64 dx, .int .i64 dy] 51)).alloc (.cells #[.int .i64 0, .int .i64 0, .int .i64 0] 53)) => (HF.out p.wd p.since).1.cell 1
  have q2 := fun p : KeptW (((w.alloc (.cells #[.int .i64 ax, .int .i64 ay, .int .i64 bx, .int .i64 bz] 51)).alloc (.cells #[.int .i64 cx, .int .i64 cy, .int .i64 dx, .int .i64 dy] 51)).alloc (.cells #[.int .i64 0, .int .i64 0, .int .i64 0] 53)) => (HF.out p.wd p.since).1.cell 2
  have q3 := fun p : KeptW (((w.alloc (.cells #[.int .i64 ax, .int .i64 ay, .int .i64 bx, .int .i64 bz] 51)).alloc (.cells #[.int .i64 cx, .int .i64 cy, .int .i64 dx, .int .i64 dy] 51)).alloc (.cells #[.int .i64 0, .int .i64 0, .int .i64 0] 53)) => (HF.out p.wd p.since).1.cell 3
  have q4 := fun p : KeptW (((w.alloc (.cells #[.int .i64 ax, .int .i64 ay, .int .i64 bx, .int .i64 bz] 51)).alloc (.cells #[.int .i64 cx, .int .i64 cy, .int .i64 dx, .int .i64 dy] 51)).alloc (.cells #[.int .i64 0, .int .i64 0, .int .i64 0] 53)) => (HF.out p.wd p.since).2.1.cell 0
  have q5 := fun p : KeptW (((w.alloc (.cells #[.int .i64 ax, .int .i64 ay, .int .i64 bx, .int .i64 bz] 51)).alloc (.cells #[.int .i64 cx, .int .i64 cy, .int .i64 dx, .int .i64 dy] 51)).alloc (.cells #[.int .i64 0, .int .i64 0, .int .i64 0] 53)) => (HF.out p.wd p.since).2.1.cell 1
  have q6 := fun p : KeptW (((w.alloc (.cells #[.int .i64 ax, .int .i64 ay, .int .i64 bx, .int .i64 bz] 51)).alloc (.cells #[.int .i64 cx, .int .i64 cy, .int .i64 dx, .int .i64 dy] 51)).alloc (.cells #[.int .i64 0, .int .i64 0, .int .i64 0] 53)) => (HF.out p.wd p.since).2.1.cell 2
  have q7 := fun p : KeptW (((w.alloc (.cells #[.int .i64 ax, .int .i64 ay, .int .i64 bx, .int .i64 bz] 51)).alloc (.cells #[.int .i64 cx, .int .i64 cy, .int .i64 dx, .int .i64 dy] 51)).alloc (.cells #[.int .i64 0, .int .i64 0, .int .i64 0] 53)) => (HF.out p.wd p.since).2.1.cell 3
  have q8 := fun p : KeptW (((w.alloc (.cells #[.int .i64 ax, .int .i64 ay, .int .i64 bx, .int .i64 bz] 51)).alloc (.cells #[.int .i64 cx, .int .i64 cy, .int .i64 dx, .int .i64 dy] 51)).alloc (.cells #[.int .i64 0, .int .i64 0, .int .i64 0] 53)) => (HF.out p.wd p.since).2.2.cell 0
  have q9 := fun p : KeptW (((w.alloc (.cells #[.int .i64 ax, .int .i64 ay, .int .i64 bx, .int .i64 bz] 51)).alloc (.cells #[.int .i64 cx, .int .i64 cy, .int .i64 dx, .int .i64 dy] 51)).alloc (.cells #[.int .i64 0, .int .i64 0, .int .i64 0] 53)) => (HF.out p.wd p.since).2.2.frozen 0
  have q10 := fun p : KeptW (((w.alloc (.cells #[.int .i64 ax, .int .i64 ay, .int .i64 bx, .int .i64 bz] 51)).alloc (.cells #[.int .i64 cx, .int .i64 cy, .int .i64 dx, .int .i64 dy] 51)).alloc (.cells #[.int .i64 0, .int .i64 0, .int .i64 0] 53)) => (HF.out p.wd p.since).2.2.cell 1
  have q11 := fun p : KeptW (((w.alloc (.cells #[.int .i64 ax, .int .i64 ay, .int .i64 bx, .int .i64 bz] 51)).alloc (.cells #[.int .i64 cx, .int .i64 cy, .int .i64 dx, .int .i64 dy] 51)).alloc (.cells #[.int .i64 0, .int .i64 0, .int .i64 0] 53)) => (HF.out p.wd p.since).2.2.frozen 1
  have q12 := fun p : KeptW (((w.alloc (.cells #[.int .i64 ax, .int .i64 ay, .int .i64 bx, .int .i64 bz] 51)).alloc (.cells #[.int .i64 cx, .int .i64 cy, .int .i64 dx, .int .i64 dy] 51)).alloc (.cells #[.int .i64 0, .int .i64 0, .int .i64 0] 53)) => (HF.out p.wd p.since).2.2.cell 2
  have q13 := fun p : KeptW (((w.alloc (.cells #[.int .i64 ax, .int .i64 ay, .int .i64 bx, .int .i64 bz] 51)).alloc (.cells #[.int .i64 cx, .int .i64 cy, .int .i64 dx, .int .i64 dy] 51)).alloc (.cells #[.int .i64 0, .int .i64 0, .int .i64 0] 53)) => (HF.out p.wd p.since).2.2.frozen 2
  have HP0 := Lib.hid (show ∀ w', Nw (((w.alloc (.cells #[.int .i64 ax, .int .i64 ay, .int .i64 bx, .int .i64 bz] 51)).alloc (.cells #[.int .i64 cx, .int .i64 cy, .int .i64 dx, .int .i64 dy] 51)).alloc (.cells #[.int .i64 0, .int .i64 0, .int .i64 0] 53)) w' → w'.cell? (⟨w.heap.size, 0, none⟩ : Addr) = some (.int .i64 ax) ∧ w'.cell? (⟨w.heap.size, 1, none⟩ : Addr) = some (.int .i64 ay) ∧ w'.cell? (⟨w.heap.size, 2, none⟩ : Addr) = some (.int .i64 bx) ∧ w'.cell? (⟨w.heap.size, 3, none⟩ : Addr) = some (.int .i64 bz) ∧ w'.cell? (⟨w.heap.size + 1, 0, none⟩ : Addr) = some (.int .i64 cx) ∧ w'.cell? (⟨w.heap.size + 1, 1, none⟩ : Addr) = some (.int .i64 cy) ∧ w'.cell? (⟨w.heap.size + 1, 2, none⟩ : Addr) = some (.int .i64 dx) ∧ w'.cell? (⟨w.heap.size + 1, 3, none⟩ : Addr) = some (.int .i64 dy) from fun w' h => by
    obtain ⟨a, b, _⟩ := HF.out w' h
    exact ⟨a.cell 0, a.cell 1, a.cell 2, a.cell 3, b.cell 0, b.cell 1, b.cell 2, b.cell 3⟩)
  go_enter Try.func51, Try.ntmps51
  go_upto_region 5 with (first | (go_at_call 57; ((with_reducible refine (Calls.kept_first (c1 _)).mono ?_); rintro e _ ⟨rfl, p, rfl⟩)) | fail)
  have HP := Lib.hid (fun w' h => HP0.out w' (p.since.tr h))
  have HN3 := Lib.hid p.since
  clear q0 q1 q2 q3 q4 q5 q6 q7 q8 q9 q10 q11 q12 q13 HP0
  generalize p.wd = w3 at HP HN3 ⊢
  go_cut [6, 7] from 23 to 33 (fun p5 p6 wx => Rel2 x1 y1 x2 y2 w3 p5 p6 wx)
  case first =>
    go_wp2_with fail
    go_region_held3 (fun w' : World => w'.cell? (⟨w.heap.size, 0, none⟩ : Addr) = some (.int .i64 ax) ∧ w'.cell? (⟨w.heap.size, 1, none⟩ : Addr) = some (.int .i64 ay) ∧ w'.cell? (⟨w.heap.size, 2, none⟩ : Addr) = some (.int .i64 bx) ∧ w'.cell? (⟨w.heap.size, 3, none⟩ : Addr) = some (.int .i64 bz) ∧ w'.cell? (⟨w.heap.size + 1, 0, none⟩ : Addr) = some (.int .i64 cx) ∧ w'.cell? (⟨w.heap.size + 1, 1, none⟩ : Addr) = some (.int .i64 cy) ∧ w'.cell? (⟨w.heap.size + 1, 2, none⟩ : Addr) = some (.int .i64 dx) ∧ w'.cell? (⟨w.heap.size + 1, 3, none⟩ : Addr) = some (.int .i64 dy))
      (first | ((refine HP.out _ ?_); (repeat (first | exact hb2 | exact hb1 | exact Kp.refl _ _ | refine Kp.alloc ?_ _ | refine Kp.drew ?_ | refine Kp.new ?_ (by omega) _ _))) | fail)
      (first | (go_at_call 22; ((with_reducible refine (c5 _).mono ?_); rintro e u1 ⟨rfl, hk1⟩; have hb1 : Nw w3 u1 := Kp.tr (by repeat (first | exact hb2 | exact hb1 | exact Kp.refl _ _ | refine Kp.alloc ?_ _ | refine Kp.drew ?_ | refine Kp.new ?_ (by omega) _ _)) hk1; have l1 := hb1.size; with_reducible (first | (have p1 := Blk.nw (Blk.drew (Blk.new_at _ 23 #[.int .i64 0, .int .i64 0] (n := w3.heap.size + 1) (by simp))) hk1; have p0 := Blk.nw (Blk.drew (Blk.alloc (Blk.new_at _ 23 #[.int .i64 0, .int .i64 0] (n := w3.heap.size) (by simp)) _)) hk1; have t1 := (p0).cell 0; have t2 := (p0).cell 1; have t3 := (p0).frozen 0; have t4 := (p0).frozen 1; have t5 := Nat.ne_of_lt p0.lt; have t6 := Ne.symm (Nat.ne_of_lt p0.lt); have t1 := (p1).cell 0; have t2 := (p1).cell 1; have t3 := (p1).frozen 0; have t4 := (p1).frozen 1; have t5 := Nat.ne_of_lt p1.lt; have t6 := Ne.symm (Nat.ne_of_lt p1.lt)) | (have p0 := Blk.nw (Blk.drew (Blk.new_at _ 23 #[.int .i64 0, .int .i64 0] (n := w3.heap.size) (by simp))) hk1; have t1 := (p0).cell 0; have t2 := (p0).cell 1; have t3 := (p0).frozen 0; have t4 := (p0).frozen 1; have t5 := Nat.ne_of_lt p0.lt; have t6 := Ne.symm (Nat.ne_of_lt p0.lt)) | skip))) | (go_at_call 22; ((with_reducible refine (c6 _).mono ?_); rintro e u2 ⟨rfl, hk2⟩; have hb2 : Nw w3 u2 := Kp.tr (by repeat (first | exact hb2 | exact hb1 | exact Kp.refl _ _ | refine Kp.alloc ?_ _ | refine Kp.drew ?_ | refine Kp.new ?_ (by omega) _ _)) hk2; have l2 := hb2.size; with_reducible (first | (have t := p1; have rr1 := Blk.nw p1 hk2; have rr0 := Blk.nw p0 hk2; have t1 := (rr0).cell 0; have t2 := (rr0).cell 1; have t3 := (rr0).frozen 0; have t4 := (rr0).frozen 1; have t5 := Nat.ne_of_lt rr0.lt; have t6 := Ne.symm (Nat.ne_of_lt rr0.lt); have t1 := (rr1).cell 0; have t2 := (rr1).cell 1; have t3 := (rr1).frozen 0; have t4 := (rr1).frozen 1; have t5 := Nat.ne_of_lt rr1.lt; have t6 := Ne.symm (Nat.ne_of_lt rr1.lt)) | (have t := p0; have rr0 := Blk.nw (Blk.alloc p0 _) hk2; have o0 := Blk.nw (Blk.new_at _ 23 #[.int .i64 0, .int .i64 0] (n := u1.heap.size) (by simp)) hk2; have t1 := (rr0).cell 0; have t2 := (rr0).cell 1; have t3 := (rr0).frozen 0; have t4 := (rr0).frozen 1; have t5 := Nat.ne_of_lt rr0.lt; have t6 := Ne.symm (Nat.ne_of_lt rr0.lt); have t1 := (o0).cell 0; have t2 := (o0).cell 1; have t3 := (o0).frozen 0; have t4 := (o0).frozen 1; have t5 := Nat.ne_of_lt o0.lt; have t6 := Ne.symm (Nat.ne_of_lt o0.lt)) | (have t := p0; have rr0 := Blk.nw p0 hk2; have t1 := (rr0).cell 0; have t2 := (rr0).cell 1; have t3 := (rr0).frozen 0; have t4 := (rr0).frozen 1; have t5 := Nat.ne_of_lt rr0.lt; have t6 := Ne.symm (Nat.ne_of_lt rr0.lt); have t1 := (rr0.alloc (.cells #[.int .i64 0, .int .i64 0] 23)).cell 0; have t2 := (rr0.alloc (.cells #[.int .i64 0, .int .i64 0] 23)).cell 1; have t3 := (rr0.alloc (.cells #[.int .i64 0, .int .i64 0] 23)).frozen 0; have t4 := (rr0.alloc (.cells #[.int .i64 0, .int .i64 0] 23)).frozen 1; have t1 := (rr0.alloc (.cells #[.int .i64 x1, .int .i64 y1] 23)).cell 0; have t2 := (rr0.alloc (.cells #[.int .i64 x1, .int .i64 y1] 23)).cell 1; have t3 := (rr0.alloc (.cells #[.int .i64 x1, .int .i64 y1] 23)).frozen 0; have t4 := (rr0.alloc (.cells #[.int .i64 x1, .int .i64 y1] 23)).frozen 1) | (have o1 := Blk.nw (Blk.new_at _ 23 #[.int .i64 0, .int .i64 0] (n := u1.heap.size + 1) (by simp)) hk2; have o0 := Blk.nw (Blk.alloc (Blk.new_at _ 23 #[.int .i64 0, .int .i64 0] (n := u1.heap.size) (by simp)) _) hk2; have t1 := (o0).cell 0; have t2 := (o0).cell 1; have t3 := (o0).frozen 0; have t4 := (o0).frozen 1; have t5 := Nat.ne_of_lt o0.lt; have t6 := Ne.symm (Nat.ne_of_lt o0.lt); have t1 := (o1).cell 0; have t2 := (o1).cell 1; have t3 := (o1).frozen 0; have t4 := (o1).frozen 1; have t5 := Nat.ne_of_lt o1.lt; have t6 := Ne.symm (Nat.ne_of_lt o1.lt)) | (have o0 := Blk.nw (Blk.new_at _ 23 #[.int .i64 0, .int .i64 0] (n := u1.heap.size) (by simp)) hk2; have t1 := (o0).cell 0; have t2 := (o0).cell 1; have t3 := (o0).frozen 0; have t4 := (o0).frozen 1; have t5 := Nat.ne_of_lt o0.lt; have t6 := Ne.symm (Nat.ne_of_lt o0.lt); have t1 := (o0.alloc (.cells #[.int .i64 0, .int .i64 0] 23)).cell 0; have t2 := (o0.alloc (.cells #[.int .i64 0, .int .i64 0] 23)).cell 1; have t3 := (o0.alloc (.cells #[.int .i64 0, .int .i64 0] 23)).frozen 0; have t4 := (o0.alloc (.cells #[.int .i64 0, .int .i64 0] 23)).frozen 1; have t1 := (o0.alloc (.cells #[.int .i64 x1, .int .i64 y1] 23)).cell 0; have t2 := (o0.alloc (.cells #[.int .i64 x1, .int .i64 y1] 23)).cell 1; have t3 := (o0.alloc (.cells #[.int .i64 x1, .int .i64 y1] 23)).frozen 0; have t4 := (o0.alloc (.cells #[.int .i64 x1, .int .i64 y1] 23)).frozen 1) | skip))))
    all_goals (go_wp2_with fail; go_meet; case rel => (first | with_reducible exact two1 hb2 | with_reducible exact two2 hb2 | with_reducible exact two3 hb2 rr0 (by omega) | with_reducible exact two3 hb2 rr1 (by omega) | with_reducible exact two3 hb2 o0 (by omega) | with_reducible exact two3 hb2 o1 (by omega) | with_reducible exact two5 hb2 rr0 (by omega) | with_reducible exact two5 hb2 rr1 (by omega) | with_reducible exact two5 hb2 o0 (by omega) | with_reducible exact two5 hb2 o1 (by omega) | with_reducible exact two4 hb2 rr0 rr1 (by omega) (by omega) (by omega) | with_reducible exact two4 hb2 rr0 o0 (by omega) (by omega) (by omega) | with_reducible exact two4 hb2 rr0 o1 (by omega) (by omega) (by omega) | with_reducible exact two4 hb2 rr1 rr0 (by omega) (by omega) (by omega) | with_reducible exact two4 hb2 rr1 o0 (by omega) (by omega) (by omega) | with_reducible exact two4 hb2 rr1 o1 (by omega) (by omega) (by omega) | with_reducible exact two4 hb2 o0 rr0 (by omega) (by omega) (by omega) | with_reducible exact two4 hb2 o0 rr1 (by omega) (by omega) (by omega) | with_reducible exact two4 hb2 o0 o1 (by omega) (by omega) (by omega) | with_reducible exact two4 hb2 o1 rr0 (by omega) (by omega) (by omega) | with_reducible exact two4 hb2 o1 rr1 (by omega) (by omega) (by omega) | with_reducible exact two4 hb2 o1 o0 (by omega) (by omega) (by omega)))
  case rest =>
      obtain ⟨G5, G6, rfl, rfl, b5, b6, hkc⟩ := hcut
      have HC := Lib.hid (And.intro b5 (And.intro b6 hkc))
      have HNC := Lib.hid (HN3.out.tr hkc)
      clear b5 b6 hkc
      have q0 := fun p : KeptW wc => (HF.out p.wd (HNC.out.tr p.since)).1.cell 0
      have q1 := fun p : KeptW wc => (HF.out p.wd (HNC.out.tr p.since)).1.cell 1
      have q2 := fun p : KeptW wc => (HF.out p.wd (HNC.out.tr p.since)).1.cell 2
      have q3 := fun p : KeptW wc => (HF.out p.wd (HNC.out.tr p.since)).1.cell 3
      have q4 := fun p : KeptW wc => (HF.out p.wd (HNC.out.tr p.since)).2.1.cell 0
      have q5 := fun p : KeptW wc => (HF.out p.wd (HNC.out.tr p.since)).2.1.cell 1
      have q6 := fun p : KeptW wc => (HF.out p.wd (HNC.out.tr p.since)).2.1.cell 2
      have q7 := fun p : KeptW wc => (HF.out p.wd (HNC.out.tr p.since)).2.1.cell 3
      have q8 := fun p : KeptW wc => (HC.out.1.kept p).cell 0
      have q9 := fun p : KeptW wc => (HC.out.1.kept p).cell 1
      have q10 := fun p : KeptW wc => (HC.out.2.1.kept p).cell 0
      have q11 := fun p : KeptW wc => (HC.out.2.1.kept p).cell 1
      have q12 := fun p : KeptW wc => (HF.out p.wd (HNC.out.tr p.since)).2.2.cell 0
      have q13 := fun p : KeptW wc => (HF.out p.wd (HNC.out.tr p.since)).2.2.frozen 0
      have q14 := fun p : KeptW wc => (HF.out p.wd (HNC.out.tr p.since)).2.2.cell 1
      have q15 := fun p : KeptW wc => (HF.out p.wd (HNC.out.tr p.since)).2.2.frozen 1
      have q16 := fun p : KeptW wc => (HF.out p.wd (HNC.out.tr p.since)).2.2.cell 2
      have q17 := fun p : KeptW wc => (HF.out p.wd (HNC.out.tr p.since)).2.2.frozen 2
      have z0 := q0 ⟨wc, Kp.refl _ _⟩
      have z1 := q1 ⟨wc, Kp.refl _ _⟩
      have z2 := q2 ⟨wc, Kp.refl _ _⟩
      have z3 := q3 ⟨wc, Kp.refl _ _⟩
      have z4 := q4 ⟨wc, Kp.refl _ _⟩
      have z5 := q5 ⟨wc, Kp.refl _ _⟩
      have z6 := q6 ⟨wc, Kp.refl _ _⟩
      have z7 := q7 ⟨wc, Kp.refl _ _⟩
      have z8 := q8 ⟨wc, Kp.refl _ _⟩
      have z9 := q9 ⟨wc, Kp.refl _ _⟩
      have z10 := q10 ⟨wc, Kp.refl _ _⟩
      have z11 := q11 ⟨wc, Kp.refl _ _⟩
      have z12 := q12 ⟨wc, Kp.refl _ _⟩
      have z13 := q13 ⟨wc, Kp.refl _ _⟩
      have z14 := q14 ⟨wc, Kp.refl _ _⟩
      have z15 := q15 ⟨wc, Kp.refl _ _⟩
      have z16 := q16 ⟨wc, Kp.refl _ _⟩
      have z17 := q17 ⟨wc, Kp.refl _ _⟩
      go_upto_region 7 with (first | (go_at_call 30; ((with_reducible refine (Calls.kept_first (c7 _)).mono ?_); rintro e _ ⟨rfl, p, rfl⟩)) | fail)
      refine wp_region_kept (by repeat (first | exact p.since | exact Kp.refl _ _ | refine Kp.drew ?_)) (by assumption) (by kernel_rfl) ?_
      repeat (with_reducible refine wpQuiet_step (fun K hK => ?_); go_simp; first | ((with_reducible refine hK _ ?_); clear hK K) | (with_reducible apply Exists.intro; (with_reducible refine ⟨fun _ => ?_, hK _ ?_⟩); ((first | (go_at_call 22; with_reducible exact Calls.kept_of (c8 _)) | (go_at_call 30; with_reducible exact Calls.kept_of (c9 _)) | fail)); clear hK K) | (simp only [undef, reduceCtorEq, if_false]; (with_reducible refine hK _ ?_); clear hK K))
      with_reducible refine wpQuiet_nil ?_
      rintro _ ⟨p, rfl⟩
      go_wp2_with (first | (go_at_call 83; ((with_reducible refine (Calls.kept_of (cL _)).mono ?_); rintro e _ ⟨rfl, p, rfl⟩)) | fail)
      generalize hw9 : World.setCell _ _ _ = w9
      have h9 : Blk w9 (w.heap.size + 1 + 1) 53 #[.int .i64 r1, .int .i64 r2, .int .i64 r3] := by rw [← hw9]; exact ((((HF.out _ (HNC.out.tr p.since)).2.2).set_ 0 _).set_ 1 _).set_ 2 _
      have hn9 : Nw w w9 := by rw [← hw9]; exact (((((HW.out.tr HNC.out).tr p.since).new HRL.out _ _).new HRL.out _ _).new HRL.out _ _)
      obtain ⟨x0, x1, x2, _, _, _⟩ := h9.three
      exact bodyPost_ret (v := .tuple #[pV r1 r2 r3, .bool true]) (by simp [results, Try.results51, go_sem, x0, x1, x2]) rfl ⟨rfl, hn9⟩

theorem rat_any (ax ay bx bz cx cy dx dy : Int) (w : World) : Calls Try.prog 51 #[sV ax ay bx bz, sV cx cy dx dy] w fun e w' => e = .returned (atV ax ay bx bz cx cy dx dy) ∧ Nw w w' := by
  have c1 := fun w1 => rmeet_any ax ay bx bz cx cy dx dy w1
  unfold atV atS
  by_cases hk1 : kindS ax ay bx bz cx cy dx dy = 1
  · obtain ⟨v1, v2⟩ := kind_valid (ax := ax) (ay := ay) (bx := bx) (bz := bz) (cx := cx) (cy := cy) (dx := dx) (dy := dy) (by omega)
    obtain ⟨hl, hf, _⟩ := com_first (Or.inl hk1)
    rw [hk1] at c1 ⊢
    exact rat_touch ax ay bx bz cx cy dx dy _ _ (comS ax ay bx bz cx cy dx dy) hl hf w c1 (fun w1 => rcommon_any ax ay bx bz cx cy dx dy v1 v2 w1)
  · by_cases hk2 : kindS ax ay bx bz cx cy dx dy = 2
    · obtain ⟨⟨ha, hb⟩, ⟨hc, hd⟩, g1, g2, _⟩ := kind_two hk2
      have h0 := prt_den g1
      have c5 := fun w1 => rsub_any bx bz ax ay w1
      have c6 := fun w1 => rsub_any dx dy cx cy w1
      have c8 := fun w1 => rsub_any cx cy ax ay w1
      obtain ⟨hD, hN⟩ := den_le ha hb hc hd
      obtain ⟨hX, hY⟩ := cross_le ha hb hc hd
      unfold Lm at ha hb hc hd
      rw [w64_id (n := bx - ax) ⟨by omega, by omega⟩, w64_id (n := bz - ay) ⟨by omega, by omega⟩] at c5
      rw [w64_id (n := dx - cx) ⟨by omega, by omega⟩, w64_id (n := dy - cy) ⟨by omega, by omega⟩] at c6
      rw [w64_id (n := cx - ax) ⟨by omega, by omega⟩, w64_id (n := cy - ay) ⟨by omega, by omega⟩] at c8
      have c7 := fun w1 => rcross_any (bx - ax) (bz - ay) (dx - cx) (dy - cy) w1
      have c9 := fun w1 => rcross_any (cx - ax) (cy - ay) (dx - cx) (dy - cy) w1
      rw [show crossV (bx - ax) (bz - ay) (dx - cx) (dy - cy) = denX ax ay bx bz cx cy dx dy from w64_id ⟨by unfold denX at hD; omega, by unfold denX at hD; omega⟩] at c7
      rw [show crossV (cx - ax) (cy - ay) (dx - cx) (dy - cy) = numX ax ay cx cy dx dy from w64_id ⟨by unfold numX at hN; omega, by unfold numX at hN; omega⟩] at c9
      have m1 := abs_le_mul (x := ax) (A := 4000) (by omega) hD
      have m2 := abs_le_mul (x := ay) (A := 4000) (by omega) hD
      have m3 := abs_le_mul (x := bx - ax) (A := 8000) (by omega) hN
      have m4 := abs_le_mul (x := bz - ay) (A := 8000) (by omega) hN
      have cL : ∀ w1, Calls Try.prog 83 #[.int .i64 (crossX ax ay bx bz cx cy dx dy), .int .i64 (crossY ax ay bx bz cx cy dx dy), .int .i64 (denX ax ay bx bz cx cy dx dy)] w1 fun e w' => e = .returned (pV (crossS ax ay bx bz cx cy dx dy).1 (crossS ax ay bx bz cx cy dx dy).2.1 (crossS ax ay bx bz cx cy dx dy).2.2) ∧ Nw w1 w' := fun w1 => by
        unfold crossS
        by_cases hn : denX ax ay bx bz cx cy dx dy < 0
        · rw [if_pos hn]
          have h := rlowest_neg (-crossX ax ay bx bz cx cy dx dy) (-crossY ax ay bx bz cx cy dx dy) (-denX ax ay bx bz cx cy dx dy) (by omega) (by omega) (by omega) (by omega) w1
          rw [Int.neg_neg, Int.neg_neg, Int.neg_neg] at h
          exact h
        · rw [if_neg hn]
          exact rlowest_any (crossX ax ay bx bz cx cy dx dy) (crossY ax ay bx bz cx cy dx dy) (denX ax ay bx bz cx cy dx dy) (by omega) (by omega) (by omega) h0 w1
      rw [hk2] at c1 ⊢
      exact rat_cross ax ay bx bz cx cy dx dy _ _ _ _ _ _ _ _ _ _ _ _ _ _ _ _ _ w c1 c5 c6 c7 c8 c9 (by rw [w64_def, w64_id ⟨by omega, by omega⟩]) (by rw [w64_def, w64_id ⟨by omega, by omega⟩]) (by rw [w64_def, w64_id ⟨by unfold crossX at hX; omega, by unfold crossX at hX; omega⟩]; rfl) (by rw [w64_def, w64_id ⟨by omega, by omega⟩]) (by rw [w64_def, w64_id ⟨by omega, by omega⟩]) (by rw [w64_def, w64_id ⟨by unfold crossY at hY; omega, by unfold crossY at hY; omega⟩]; rfl) cL
    · rw [if_neg hk1, if_neg hk2, show (kindS ax ay bx bz cx cy dx dy == 1 || kindS ax ay bx bz cx cy dx dy == 2) = false by simp [hk1, hk2]]
      exact rat_none ax ay bx bz cx cy dx dy _ w hk1 hk2 c1
end Go.Proofs.Ytgmojgeclljajaa.W
