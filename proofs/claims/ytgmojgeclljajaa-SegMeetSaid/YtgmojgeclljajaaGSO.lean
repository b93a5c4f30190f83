/-
  The reference's Share: what it returns. No condition.
-/
import Derived.Test.YtgmojgeclljajaaGSN
import Derived.BigRegion
namespace Go.Proofs.Ytgmojgeclljajaa.W
open Go.RowKit Go.Proofs.Ytgmojgeclljajaa.V Go.Proofs.Ytgmojgeclljajaa.G

theorem src_ends {w : World} {A : Option Addr} {c m : Nat} {L : List (Int × Int)} {f l : Int × Int} (h : Src w 2 (.slice A (m + 1) c) (m + 1) (L.flatMap vC)) (hf : L[0]? = some f) (hl : L[m]? = some l) : ∃ g o, A = some ⟨g, o, none⟩ ∧ w.cell? ⟨g, o, none⟩ = some (.int .i64 f.1) ∧ w.cell? ⟨g, o + 1, none⟩ = some (.int .i64 f.2) ∧ w.cell? ⟨g, o + m * 2, none⟩ = some (.int .i64 l.1) ∧ w.cell? ⟨g, o + m * 2 + 1, none⟩ = some (.int .i64 l.2) ∧ m + 1 ≤ 9223372036854775807 := by
  obtain ⟨_, A', c', hA, hm1, hm2, hc⟩ := h
  injection hA with hA1 hA2 hA3
  obtain ⟨g, o, hA4, hg, hc⟩ := hc (by omega)
  obtain ⟨a1, a2⟩ := flatV_at L 0 f hf
  obtain ⟨b1, b2⟩ := flatV_at L m l hl
  have e1 := hc _ _ a1
  have e2 := hc _ _ a2
  rw [Nat.zero_mul] at e1 e2
  exact ⟨g, o, hA1.trans hA4, e1, e2, hc _ _ b1, hc _ _ b2, by unfold maxLen at hm2; omega⟩
set_option maxRecDepth 100000 in
set_option maxHeartbeats 6400000 in
theorem rshare_any (ax ay bx bz cx cy dx dy : Int) (w : World) : Calls Try.prog 53 #[sV ax ay bx bz, sV cx cy dx dy] w fun e w' => e = .returned (shareV ax ay bx bz cx cy dx dy) ∧ Nw w w' := by
  have c1 := fun w1 => rmeet_any ax ay bx bz cx cy dx dy w1
  unfold shareV shareS
  have hF : ∀ w', Nw (((w.alloc (.cells #[.int .i64 ax, .int .i64 ay, .int .i64 bx, .int .i64 bz] 51)).alloc (.cells #[.int .i64 cx, .int .i64 cy, .int .i64 dx, .int .i64 dy] 51)).alloc (.cells #[.int .i64 0, .int .i64 0, .int .i64 0, .int .i64 0] 51)) w' → Blk w' w.heap.size 51 #[.int .i64 ax, .int .i64 ay, .int .i64 bx, .int .i64 bz] ∧ Blk w' (w.heap.size + 1) 51 #[.int .i64 cx, .int .i64 cy, .int .i64 dx, .int .i64 dy] ∧ Blk w' (w.heap.size + 1 + 1) 51 #[.int .i64 0, .int .i64 0, .int .i64 0, .int .i64 0] := fun w' h => ⟨(((Blk.new_at w 51 #[.int .i64 ax, .int .i64 ay, .int .i64 bx, .int .i64 bz] (n := w.heap.size) rfl).alloc _).alloc _).kp h id, ((Blk.new_at _ 51 #[.int .i64 cx, .int .i64 cy, .int .i64 dx, .int .i64 dy] (n := w.heap.size + 1) (by simp)).alloc _).kp h id, (Blk.new_at _ 51 #[.int .i64 0, .int .i64 0, .int .i64 0, .int .i64 0] (n := w.heap.size + 1 + 1) (by simp)).kp h id⟩
  have HF := Lib.hid hF
  have HW := Lib.hid (show Nw w (((w.alloc (.cells #[.int .i64 ax, .int .i64 ay, .int .i64 bx, .int .i64 bz] 51)).alloc (.cells #[.int .i64 cx, .int .i64 cy, .int .i64 dx, .int .i64 dy] 51)).alloc (.cells #[.int .i64 0, .int .i64 0, .int .i64 0, .int .i64 0] 51)) from ((nw_alloc _ _).alloc _).alloc _)
  have HRL := Lib.hid (show w.heap.size ≤ w.heap.size + 1 + 1 from by omega)
  clear hF
  have q0 := fun p : KeptW (((w.alloc (.cells #[.int .i64 ax, .int .i64 ay, .int .i64 bx, .int .i64 bz] 51)).alloc (.cells #[.int .i64 cx, .int .i64 cy, .int .i64 dx, .int .i64 dy] 51)).alloc (.cells #[.int .i64 0, .int .i64 0, .int .i64 0, .int .i64 0] 51)) => (HF.out p.wd p.since).1.cell 0
  have q1 := fun p : KeptW (((w.alloc (.cells #[.int .i64 ax, .int .i64 ay, .int .i64 bx, .int .i64 bz] 51)).alloc (.cells #[.int .i64 cx, .int .i64 cy, .int .i64 dx, .int .i64 dy] 51)).alloc (.cells #[.int .i64 0, .int .i64 0, .int .i64 0, .int .i64 0] 51)) => (HF.out p.wd p.since).1.cell 1
  have q2 := fun p : KeptW (((w.alloc (.cells #[.int .i64 ax, .int .i64 ay, .int .i64 bx, .int .i64 bz] 51)).alloc (.cells #[.int .i64 cx, .int .i64 cy, .int .i64 dx, .int .i64 dy] 51)).alloc (.cells #[.int .i64 0, .int .i64 0, .int .i64 0, .int .i64 0] 51)) => (HF.out p.wd p.since).1.cell 2
  have q3 := fun p : KeptW (((w.alloc (.cells #[.int .i64 ax, .int .i64 ay, .int .i64 bx, .int .i64 bz] 51)).alloc (.cells #[.int .i64 cx, .int .i64 cy, .int .i64 dx, .int .i64 dy] 51)).alloc (.cells #[.int .i64 0, .int .i64 0, .int .i64 0, .int .i64 0] 51)) => (HF.out p.wd p.since).1.cell 3
  have q4 := fun p : KeptW (((w.alloc (.cells #[.int .i64 ax, .int .i64 ay, .int .i64 bx, .int .i64 bz] 51)).alloc (.cells #[.int .i64 cx, .int .i64 cy, .int .i64 dx, .int .i64 dy] 51)).alloc (.cells #[.int .i64 0, .int .i64 0, .int .i64 0, .int .i64 0] 51)) => (HF.out p.wd p.since).2.1.cell 0
  have q5 := fun p : KeptW (((w.alloc (.cells #[.int .i64 ax, .int .i64 ay, .int .i64 bx, .int .i64 bz] 51)).alloc (.cells #[.int .i64 cx, .int .i64 cy, .int .i64 dx, .int .i64 dy] 51)).alloc (.cells #[.int .i64 0, .int .i64 0, .int .i64 0, .int .i64 0] 51)) => (HF.out p.wd p.since).2.1.cell 1
  have q6 := fun p : KeptW (((w.alloc (.cells #[.int .i64 ax, .int .i64 ay, .int .i64 bx, .int .i64 bz] 51)).alloc (.cells #[.int .i64 cx, .int .i64 cy, .int .i64 dx, .int .i64 dy] 51)).alloc (.cells #[.int .i64 0, .int .i64 0, .int .i64 0, .int .i64 0] 51)) => (HF.out p.wd p.since).2.1.cell 2
  have q7 := fun p : KeptW (((w.alloc (.cells #[.int .i64 ax, .int .i64 ay, .int .i64 bx, .int .i64 bz] 51)).alloc (.cells #[.int .i64 cx, .int .i64 cy, .int .i64 dx, .int .i64 dy] 51)).alloc (.cells #[.int .i64 0, .int .i64 0, .int .i64 0, .int .i64 0] 51)) => (HF.out p.wd p.since).2.1.cell 3
  have q8 := fun p : KeptW (((w.alloc (.cells #[.int .i64 ax, .int .i64 ay, .int .i64 bx, .int .i64 bz] 51)).alloc (.cells #[.int .i64 cx, .int .i64 cy, .int .i64 dx, .int .i64 dy] 51)).alloc (.cells #[.int .i64 0, .int .i64 0, .int .i64 0, .int .i64 0] 51)) => (HF.out p.wd p.since).2.2.cell 0
  have q9 := fun p : KeptW (((w.alloc (.cells #[.int .i64 ax, .int .i64 ay, .int .i64 bx, .int .i64 bz] 51)).alloc (.cells #[.int .i64 cx, .int .i64 cy, .int .i64 dx, .int .i64 dy] 51)).alloc (.cells #[.int .i64 0, .int .i64 0, .int .i64 0, .int .i64 0] 51)) => (HF.out p.wd p.since).2.2.frozen 0
  have q10 := fun p : KeptW (((w.alloc (.cells #[.int .i64 ax, .int .i64 ay, .int .i64 bx, .int .i64 bz] 51)).alloc (.cells #[.int .i64 cx, .int .i64 cy, .int .i64 dx, .int .i64 dy] 51)).alloc (.cells #[.int .i64 0, .int .i64 0, .int .i64 0, .int .i64 0] 51)) => (HF.out p.wd p.since).2.2.cell 1
  have q11 := fun p : KeptW (((w.alloc (.cells #[.int .i64 ax, .int .i64 ay, .int .i64 bx, .int .i64 bz] 51)).alloc (.cells #[.int .i64 cx, .int .i64 cy, .int .i64 dx, .int .i64 dy] 51)).alloc (.cells #[.int .i64 0, .int .i64 0, .int .i64 0, .int .i64 0] 51)) => (HF.out p.wd p.since).2.2.frozen 1
  have q12 := fun p : KeptW (((w.alloc (.cells #[.int .i64 ax, .int .i64 ay, .int .i64 bx, .int .i64 bz] 51)).alloc (.cells #[.int .i64 cx, .int .i64 cy, .int .i64 dx, .int .i64 dy] 51)).alloc (.cells #[.int .i64 0, .int .i64 0, .int .i64 0, .int .i64 0] 51)) => (HF.out p.wd p.since).2.2.cell 2
  have q13 := fun p : KeptW (((w.alloc (.cells #[.int .i64 ax, .int .i64 ay, .int .i64 bx, .int .i64 bz] 51)).alloc (.cells #[.int .i64 cx, .int .i64 cy, .int .i64 dx, .int .i64 dy] 51)).alloc (.cells #[.int .i64 0, .int .i64 0, .int .i64 0, .int .i64 0] 51)) => (HF.out p.wd p.since).2.2.frozen 2
  have q14 := fun p : KeptW (((w.alloc (.cells #[.int .i64 ax, .int .i64 ay, .int .i64 bx, .int .i64 bz] 51)).alloc (.cells #[.int .i64 cx, .int .i64 cy, .int .i64 dx, .int .i64 dy] 51)).alloc (.cells #[.int .i64 0, .int .i64 0, .int .i64 0, .int .i64 0] 51)) => (HF.out p.wd p.since).2.2.cell 3
  have q15 := fun p : KeptW (((w.alloc (.cells #[.int .i64 ax, .int .i64 ay, .int .i64 bx, .int .i64 bz] 51)).alloc (.cells #[.int .i64 cx, .int .i64 cy, .int .i64 dx, .int .i64 dy] 51)).alloc (.cells #[.int .i64 0, .int .i64 0, .int .i64 0, .int .i64 0] 51)) => (HF.out p.wd p.since).2.2.frozen 3
  by_cases hk : kindS ax ay bx bz cx cy dx dy = 3
  · obtain ⟨h1, h2⟩ := kind_valid (ax := ax) (ay := ay) (bx := bx) (bz := bz) (cx := cx) (cy := cy) (dx := dx) (dy := dy) (by omega)
    obtain ⟨hl, hf, hg⟩ := com_first (Or.inr hk)
    have c3 := fun w1 => rcommon_any ax ay bx bz cx cy dx dy h1 h2 w1
    have hv : Value.tuple #[sV (if kindS ax ay bx bz cx cy dx dy = 3 then partsS ax ay bx bz cx cy dx dy else ((0, 0), (0, 0))).1.1 (if kindS ax ay bx bz cx cy dx dy = 3 then partsS ax ay bx bz cx cy dx dy else ((0, 0), (0, 0))).1.2 (if kindS ax ay bx bz cx cy dx dy = 3 then partsS ax ay bx bz cx cy dx dy else ((0, 0), (0, 0))).2.1 (if kindS ax ay bx bz cx cy dx dy = 3 then partsS ax ay bx bz cx cy dx dy else ((0, 0), (0, 0))).2.2, .bool (kindS ax ay bx bz cx cy dx dy == 3)] = .tuple #[sV (partsS ax ay bx bz cx cy dx dy).1.1 (partsS ax ay bx bz cx cy dx dy).1.2 (partsS ax ay bx bz cx cy dx dy).2.1 (partsS ax ay bx bz cx cy dx dy).2.2, .bool true] := by rw [hk]; rfl
    rw [hv]
    rw [hk] at c1
    clear hk h1 h2 hv
    generalize partsS ax ay bx bz cx cy dx dy = ps at *
    obtain ⟨⟨f1, f2⟩, ⟨l1, l2⟩⟩ := ps
    generalize comS ax ay bx bz cx cy dx dy = L at *
    obtain ⟨m, hm⟩ : ∃ m, L.length = m + 1 := ⟨L.length - 1, by omega⟩
    rw [hm, Nat.add_sub_cancel] at hg
    have HM := Lib.hid hm
    have HL := Lib.hid (And.intro hf hg)
    clear hl hf hg hm
    go_enter Try.func53, Try.ntmps53
    go_wp2_with (first | (go_at_call 57; ((with_reducible refine (Calls.kept_first (c1 _)).mono ?_); rintro e _ ⟨rfl, p, rfl⟩)) | fail)
    refine (c3 _).mono ?_
    rintro e w3 ⟨v3, rfl, hs3, hk3⟩
    have hs3 : Src w3 2 v3 (m + 1) (L.flatMap vC) := by have h := hs3; unfold SrcV at h; rw [HM.out] at h; exact h
    obtain ⟨A3, cc3, rfl⟩ := hs3.shape
    obtain ⟨g, o, rfl, e0, e1, e2, e3, hmx⟩ := src_ends hs3 HL.out.1 HL.out.2
    simp only at e0 e1 e2 e3
    have HN := Lib.hid (p.since.tr hk3)
    clear hs3 hk3 c1 c3 q0 q1 q2 q3 q4 q5 q6 q7 q8 q9 q10 q11 q12 q13 q14 q15
    obtain ⟨_, _, _, _, r0, r1, r2, r3⟩ := (HF.out _ HN.out).2.2.four
    have j0 : (0 : Int) ≤ (m : Int) := by omega
    have j1 : (m : Int) < ((m + 1 : Nat) : Int) := by omega
    have j2 : (0 : Int) < ((m + 1 : Nat) : Int) := by omega
    have j3 : IntKind.i64.wrap (m : Int) = (m : Int) := wrap_mid (by omega)
    have j4 : wrap64 (m : Int) = (m : Int) := by rw [w64_def, w64_id ⟨by omega, by omega⟩]
    have j5 : (m : Int) < (m : Int) + 1 := by omega
    have j6 : (0 : Int) < (m : Int) + 1 := by omega
    clear hmx
    go_wp2_with fail
    go_region
    go_wp2_with fail
    generalize hw9 : World.setCell _ _ _ = w9
    have h9 : Blk w9 (w.heap.size + 1 + 1) 51 #[.int .i64 f1, .int .i64 f2, .int .i64 l1, .int .i64 l2] := by rw [← hw9]; exact ((show Blk _ _ _ _ from by repeat (first | exact (HF.out _ HN.out).2.2 | refine Blk.drew ?_)).lay4a _ _).lay4b _ _
    have hn9 : Nw w w9 := by rw [← hw9]; exact (((((show Nw w _ from by repeat (first | exact (HW.out.tr HN.out) | refine Kp.drew ?_)).new HRL.out _ _).new HRL.out _ _).new HRL.out _ _).new HRL.out _ _)
    obtain ⟨x0, x1, x2, x3, _, _, _, _⟩ := h9.four
    exact bodyPost_ret (v := .tuple #[sV f1 f2 l1 l2, .bool true]) (by simp [results, Try.results53, go_sem, x0, x1, x2, x3]) rfl ⟨rfl, by first | exact hn9 | exact hn9.drew⟩
  · have hv : Value.tuple #[sV (if kindS ax ay bx bz cx cy dx dy = 3 then partsS ax ay bx bz cx cy dx dy else ((0, 0), (0, 0))).1.1 (if kindS ax ay bx bz cx cy dx dy = 3 then partsS ax ay bx bz cx cy dx dy else ((0, 0), (0, 0))).1.2 (if kindS ax ay bx bz cx cy dx dy = 3 then partsS ax ay bx bz cx cy dx dy else ((0, 0), (0, 0))).2.1 (if kindS ax ay bx bz cx cy dx dy = 3 then partsS ax ay bx bz cx cy dx dy else ((0, 0), (0, 0))).2.2, .bool (kindS ax ay bx bz cx cy dx dy == 3)] = .tuple #[sV 0 0 0 0, .bool false] := by rw [if_neg hk, show (kindS ax ay bx bz cx cy dx dy == 3) = false by simp [hk]]
    rw [hv]
    clear hv
    generalize kindS ax ay bx bz cx cy dx dy = k at *
    have e1 : (k != 3) = true := by simp [hk]
    clear hk
    go_enter Try.func53, Try.ntmps53
    go_wp2_with (first | (go_at_call 57; ((with_reducible refine (Calls.kept_first (c1 _)).mono ?_); rintro e _ ⟨rfl, p, rfl⟩)) | fail)
    generalize hw9 : World.setCell _ _ _ = w9
    have h9 : Blk w9 (w.heap.size + 1 + 1) 51 #[.int .i64 0, .int .i64 0, .int .i64 0, .int .i64 0] := by rw [← hw9]; exact ((show Blk _ _ _ _ from by repeat (first | exact (HF.out _ p.since).2.2 | refine Blk.drew ?_)).lay4a _ _).lay4b _ _
    have hn9 : Nw w w9 := by rw [← hw9]; exact (((((show Nw w _ from by repeat (first | exact (HW.out.tr p.since) | refine Kp.drew ?_)).new HRL.out _ _).new HRL.out _ _).new HRL.out _ _).new HRL.out _ _)
    obtain ⟨x0, x1, x2, x3, _, _, _, _⟩ := h9.four
    exact bodyPost_ret (v := .tuple #[sV 0 0 0 0, .bool false]) (by simp [results, Try.results53, go_sem, x0, x1, x2, x3]) rfl ⟨rfl, by first | exact hn9 | exact hn9.drew⟩
end Go.Proofs.Ytgmojgeclljajaa.W
