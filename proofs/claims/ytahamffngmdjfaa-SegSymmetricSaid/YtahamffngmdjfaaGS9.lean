/-
  seg and its reference: PointOf and Whole; Meet and Share of seg: what each returns. No condition.
-/
import Derived.Test.YtahamffngmdjfaaGS8
namespace Go.Proofs.Ytahamffngmdjfaa.W
open Go.RowKit Go.Proofs.Ytahamffngmdjfaa.V Go.Proofs.Ytahamffngmdjfaa.G

def wholeV (x y d : Int) : Value := if validP x y d && (d == 1) then .tuple #[vV x y, .bool true] else .tuple #[vV 0 0, .bool false]

set_option maxHeartbeats 800000 in
theorem pointOf_any (x y : Int) (w : World) : Calls Try.prog 66 #[vV x y] w fun e w' => e = .returned (pV x y 1) ∧ Nw w w' := by
  go_enter Try.func66, Try.ntmps66
  go_wp2
  exact bodyPost_ret (v := pV x y 1) (by simp [results, Try.results66, go_sem]) rfl ⟨rfl, by repeat (first | exact Kp.refl _ _ | refine Kp.alloc ?_ _ | refine Kp.drew ?_ | refine Kp.drewN ?_ _)⟩

set_option maxHeartbeats 800000 in
theorem rpointOf_any (x y : Int) (w : World) : Calls Try.prog 67 #[vV x y] w fun e w' => e = .returned (pV x y 1) ∧ Nw w w' := by
  go_enter Try.func67, Try.ntmps67
  go_wp2
  exact bodyPost_ret (v := pV x y 1) (by simp [results, Try.results67, go_sem]) rfl ⟨rfl, by repeat (first | exact Kp.refl _ _ | refine Kp.alloc ?_ _ | refine Kp.drew ?_ | refine Kp.drewN ?_ _)⟩

set_option maxHeartbeats 1600000 in
theorem whole_any (x y d : Int) (w : World) : Calls Try.prog 60 #[pV x y d] w fun e w' => e = .returned (wholeV x y d) ∧ Nw w w' := by
  have c1 := fun w1 => validPoint_any x y d w1
  have hF : ∀ w', Nw ((w.alloc (.cells #[.int .i64 x, .int .i64 y, .int .i64 d] 50)).alloc (.cells #[.int .i64 0, .int .i64 0] 23)) w' → Blk w' w.heap.size 50 #[.int .i64 x, .int .i64 y, .int .i64 d] ∧ Blk w' (w.heap.size + 1) 23 #[.int .i64 0, .int .i64 0] := fun w' h => ⟨((Blk.new_at w 50 #[.int .i64 x, .int .i64 y, .int .i64 d] (n := w.heap.size) rfl).alloc _).kp h id, (Blk.new_at _ 23 #[.int .i64 0, .int .i64 0] (n := w.heap.size + 1) (by simp)).kp h id⟩
  have HF := Lib.hid hF
  have HW := Lib.hid (show Nw w ((w.alloc (.cells #[.int .i64 x, .int .i64 y, .int .i64 d] 50)).alloc (.cells #[.int .i64 0, .int .i64 0] 23)) from (nw_alloc _ _).alloc _)
  have HRL := Lib.hid (show w.heap.size ≤ w.heap.size + 1 from by omega)
  have HV := Lib.hid (show wholeV x y d = if validP x y d && (d == 1) then .tuple #[vV x y, .bool true] else .tuple #[vV 0 0, .bool false] from rfl)
  clear hF
  have q0 := fun p : KeptW ((w.alloc (.cells #[.int .i64 x, .int .i64 y, .int .i64 d] 50)).alloc (.cells #[.int .i64 0, .int .i64 0] 23)) => (HF.out p.wd p.since).1.cell 0
  have q1 := fun p : KeptW ((w.alloc (.cells #[.int .i64 x, .int .i64 y, .int .i64 d] 50)).alloc (.cells #[.int .i64 0, .int .i64 0] 23)) => (HF.out p.wd p.since).1.cell 1
  have q2 := fun p : KeptW ((w.alloc (.cells #[.int .i64 x, .int .i64 y, .int .i64 d] 50)).alloc (.cells #[.int .i64 0, .int .i64 0] 23)) => (HF.out p.wd p.since).1.cell 2
  have q3 := fun p : KeptW ((w.alloc (.cells #[.int .i64 x, .int .i64 y, .int .i64 d] 50)).alloc (.cells #[.int .i64 0, .int .i64 0] 23)) => (HF.out p.wd p.since).2.cell 0
  have y0 := fun p : KeptW ((w.alloc (.cells #[.int .i64 x, .int .i64 y, .int .i64 d] 50)).alloc (.cells #[.int .i64 0, .int .i64 0] 23)) => (HF.out p.wd p.since).2.frozen 0
  have q4 := fun p : KeptW ((w.alloc (.cells #[.int .i64 x, .int .i64 y, .int .i64 d] 50)).alloc (.cells #[.int .i64 0, .int .i64 0] 23)) => (HF.out p.wd p.since).2.cell 1
  have y1 := fun p : KeptW ((w.alloc (.cells #[.int .i64 x, .int .i64 y, .int .i64 d] 50)).alloc (.cells #[.int .i64 0, .int .i64 0] 23)) => (HF.out p.wd p.since).2.frozen 1
  generalize wholeV x y d = wv at *
  generalize validP x y d = va at *
  obtain ⟨de, hd⟩ : ∃ b, (d == 1) = b := ⟨_, rfl⟩
  have hd2 : (d != 1) = !de := by rw [← hd]; rfl
  rw [hd] at HV
  cases de
  · go_enter Try.func60, Try.ntmps60
    go_wp2_with fail
    exact bodyPost_ret (v := .tuple #[vV 0 0, .bool false]) (by simp [results, Try.results60, go_sem]) rfl ⟨by rw [HV.out]; cases va <;> rfl, HW.out⟩
  · cases va
    · go_enter Try.func60, Try.ntmps60
      go_wp2_with (first | (go_at_call 68; ((with_reducible refine (Calls.kept_first (c1 _)).mono ?_); rintro e _ ⟨rfl, p, rfl⟩)) | fail)
      generalize hw9 : World.setCell _ _ _ = w9
      have h9 : Blk w9 (w.heap.size + 1) 23 #[.int .i64 0, .int .i64 0] := by rw [← hw9]; exact (HF.out _ p.since).2.lay2 _ _
      have hn9 : Nw w w9 := by rw [← hw9]; exact (((HW.out.tr p.since).new HRL.out _ _).new HRL.out _ _)
      obtain ⟨x0, x1, _, _⟩ := h9.two
      exact bodyPost_ret (v := .tuple #[vV 0 0, .bool false]) (by simp [results, Try.results60, go_sem, x0, x1]) rfl ⟨by rw [HV.out]; rfl, hn9⟩
    · go_enter Try.func60, Try.ntmps60
      go_wp2_with (first | (go_at_call 68; ((with_reducible refine (Calls.kept_first (c1 _)).mono ?_); rintro e _ ⟨rfl, p, rfl⟩)) | fail)
      generalize hw9 : World.setCell _ _ _ = w9
      have h9 : Blk w9 (w.heap.size + 1) 23 #[.int .i64 x, .int .i64 y] := by rw [← hw9]; exact (HF.out _ p.since).2.lay2 _ _
      have hn9 : Nw w w9 := by rw [← hw9]; exact (((HW.out.tr p.since).new HRL.out _ _).new HRL.out _ _)
      obtain ⟨x0, x1, _, _⟩ := h9.two
      exact bodyPost_ret (v := .tuple #[vV x y, .bool true]) (by simp [results, Try.results60, go_sem, x0, x1]) rfl ⟨by rw [HV.out]; rfl, hn9⟩

set_option maxHeartbeats 1600000 in
theorem rwhole_any (x y d : Int) (w : World) : Calls Try.prog 61 #[pV x y d] w fun e w' => e = .returned (wholeV x y d) ∧ Nw w w' := by
  have c1 := fun w1 => rvalidPoint_any x y d w1
  have hF : ∀ w', Nw ((w.alloc (.cells #[.int .i64 x, .int .i64 y, .int .i64 d] 50)).alloc (.cells #[.int .i64 0, .int .i64 0] 23)) w' → Blk w' w.heap.size 50 #[.int .i64 x, .int .i64 y, .int .i64 d] ∧ Blk w' (w.heap.size + 1) 23 #[.int .i64 0, .int .i64 0] := fun w' h => ⟨((Blk.new_at w 50 #[.int .i64 x, .int .i64 y, .int .i64 d] (n := w.heap.size) rfl).alloc _).kp h id, (Blk.new_at _ 23 #[.int .i64 0, .int .i64 0] (n := w.heap.size + 1) (by simp)).kp h id⟩
  have HF := Lib.hid hF
  have HW := Lib.hid (show Nw w ((w.alloc (.cells #[.int .i64 x, .int .i64 y, .int .i64 d] 50)).alloc (.cells #[.int .i64 0, .int .i64 0] 23)) from (nw_alloc _ _).alloc _)
  have HRL := Lib.hid (show w.heap.size ≤ w.heap.size + 1 from by omega)
  have HV := Lib.hid (show wholeV x y d = if validP x y d && (d == 1) then .tuple #[vV x y, .bool true] else .tuple #[vV 0 0, .bool false] from rfl)
  clear hF
  have q0 := fun p : KeptW ((w.alloc (.cells #[.int .i64 x, .int .i64 y, .int .i64 d] 50)).alloc (.cells #[.int .i64 0, .int .i64 0] 23)) => (HF.out p.wd p.since).1.cell 0
  have q1 := fun p : KeptW ((w.alloc (.cells #[.int .i64 x, .int .i64 y, .int .i64 d] 50)).alloc (.cells #[.int .i64 0, .int .i64 0] 23)) => (HF.out p.wd p.since).1.cell 1
  have q2 := fun p : KeptW ((w.alloc (.cells #[.int .i64 x, .int .i64 y, .int .i64 d] 50)).alloc (.cells #[.int .i64 0, .int .i64 0] 23)) => (HF.out p.wd p.since).1.cell 2
  have q3 := fun p : KeptW ((w.alloc (.cells #[.int .i64 x, .int .i64 y, .int .i64 d] 50)).alloc (.cells #[.int .i64 0, .int .i64 0] 23)) => (HF.out p.wd p.since).2.cell 0
  have y0 := fun p : KeptW ((w.alloc (.cells #[.int .i64 x, .int .i64 y, .int .i64 d] 50)).alloc (.cells #[.int .i64 0, .int .i64 0] 23)) => (HF.out p.wd p.since).2.frozen 0
  have q4 := fun p : KeptW ((w.alloc (.cells #[.int .i64 x, .int .i64 y, .int .i64 d] 50)).alloc (.cells #[.int .i64 0, .int .i64 0] 23)) => (HF.out p.wd p.since).2.cell 1
  have y1 := fun p : KeptW ((w.alloc (.cells #[.int .i64 x, .int .i64 y, .int .i64 d] 50)).alloc (.cells #[.int .i64 0, .int .i64 0] 23)) => (HF.out p.wd p.since).2.frozen 1
  generalize wholeV x y d = wv at *
  generalize validP x y d = va at *
  obtain ⟨de, hd⟩ : ∃ b, (d == 1) = b := ⟨_, rfl⟩
  have hd2 : (d != 1) = !de := by rw [← hd]; rfl
  rw [hd] at HV
  cases va
  · go_enter Try.func61, Try.ntmps61
    go_wp2_with (first | (go_at_call 69; ((with_reducible refine (Calls.kept_first (c1 _)).mono ?_); rintro e _ ⟨rfl, p, rfl⟩)) | fail)
    generalize hw9 : World.setCell _ _ _ = w9
    have h9 : Blk w9 (w.heap.size + 1) 23 #[.int .i64 0, .int .i64 0] := by rw [← hw9]; exact (HF.out _ p.since).2.lay2 _ _
    have hn9 : Nw w w9 := by rw [← hw9]; exact (((HW.out.tr p.since).new HRL.out _ _).new HRL.out _ _)
    obtain ⟨x0, x1, _, _⟩ := h9.two
    exact bodyPost_ret (v := .tuple #[vV 0 0, .bool false]) (by simp [results, Try.results61, go_sem, x0, x1]) rfl ⟨by rw [HV.out]; cases de <;> rfl, hn9⟩
  · cases de
    · go_enter Try.func61, Try.ntmps61
      go_wp2_with (first | (go_at_call 69; ((with_reducible refine (Calls.kept_first (c1 _)).mono ?_); rintro e _ ⟨rfl, p, rfl⟩)) | fail)
      generalize hw9 : World.setCell _ _ _ = w9
      have h9 : Blk w9 (w.heap.size + 1) 23 #[.int .i64 0, .int .i64 0] := by rw [← hw9]; exact (HF.out _ p.since).2.lay2 _ _
      have hn9 : Nw w w9 := by rw [← hw9]; exact (((HW.out.tr p.since).new HRL.out _ _).new HRL.out _ _)
      obtain ⟨x0, x1, _, _⟩ := h9.two
      exact bodyPost_ret (v := .tuple #[vV 0 0, .bool false]) (by simp [results, Try.results61, go_sem, x0, x1]) rfl ⟨by rw [HV.out]; rfl, hn9⟩
    · go_enter Try.func61, Try.ntmps61
      go_wp2_with (first | (go_at_call 69; ((with_reducible refine (Calls.kept_first (c1 _)).mono ?_); rintro e _ ⟨rfl, p, rfl⟩)) | fail)
      generalize hw9 : World.setCell _ _ _ = w9
      have h9 : Blk w9 (w.heap.size + 1) 23 #[.int .i64 x, .int .i64 y] := by rw [← hw9]; exact (HF.out _ p.since).2.lay2 _ _
      have hn9 : Nw w w9 := by rw [← hw9]; exact (((HW.out.tr p.since).new HRL.out _ _).new HRL.out _ _)
      obtain ⟨x0, x1, _, _⟩ := h9.two
      exact bodyPost_ret (v := .tuple #[vV x y, .bool true]) (by simp [results, Try.results61, go_sem, x0, x1]) rfl ⟨by rw [HV.out]; rfl, hn9⟩

set_option maxHeartbeats 1600000 in
theorem meetK_any (ax ay bx bz cx cy dx dy : Int) (w : World) : Calls Try.prog 58 #[sV ax ay bx bz, sV cx cy dx dy] w fun e w' => e = .returned (.int .i64 (kindS ax ay bx bz cx cy dx dy)) ∧ Nw w w' := by
  have c1 := fun w1 => meet_any ax ay bx bz cx cy dx dy w1
  unfold meetV at c1
  generalize kindS ax ay bx bz cx cy dx dy = k at *
  generalize partsS ax ay bx bz cx cy dx dy = ps at *
  go_enter Try.func58, Try.ntmps58
  go_wp2_with (first | (go_at_call 101; ((with_reducible refine (Calls.kept_first (c1 _)).mono ?_); rintro e _ ⟨rfl, p, rfl⟩)) | fail)
  go_ret
  exact ⟨rfl, (((nw_alloc _ _).alloc _).tr p.since).alloc _⟩

def shareV (ax ay bx bz cx cy dx dy : Int) : Value := .tuple #[sV (shareS ax ay bx bz cx cy dx dy).1.1 (shareS ax ay bx bz cx cy dx dy).1.2 (shareS ax ay bx bz cx cy dx dy).2.1 (shareS ax ay bx bz cx cy dx dy).2.2, .bool (kindS ax ay bx bz cx cy dx dy == 3)]
set_option maxHeartbeats 1600000 in
theorem share_any (ax ay bx bz cx cy dx dy : Int) (w : World) : Calls Try.prog 54 #[sV ax ay bx bz, sV cx cy dx dy] w fun e w' => e = .returned (shareV ax ay bx bz cx cy dx dy) ∧ Nw w w' := by
  have c1 := fun w1 => meet_any ax ay bx bz cx cy dx dy w1
  unfold meetV at c1
  unfold shareV shareS
  generalize kindS ax ay bx bz cx cy dx dy = k at *
  generalize partsS ax ay bx bz cx cy dx dy = ps at *
  obtain ⟨⟨f1, f2⟩, ⟨l1, l2⟩⟩ := ps
  have hR : Blk (((w.alloc (.cells #[.int .i64 ax, .int .i64 ay, .int .i64 bx, .int .i64 bz] 48)).alloc (.cells #[.int .i64 cx, .int .i64 cy, .int .i64 dx, .int .i64 dy] 48)).alloc (.cells #[.int .i64 0, .int .i64 0, .int .i64 0, .int .i64 0] 48)) (w.heap.size + 1 + 1) 48 #[.int .i64 0, .int .i64 0, .int .i64 0, .int .i64 0] := Blk.new_at _ _ _ (by simp)
  have HRL := Lib.hid (show w.heap.size ≤ w.heap.size + 1 + 1 from by omega)
  have HR := Lib.hid hR
  have HW := Lib.hid (show Nw w (((w.alloc (.cells #[.int .i64 ax, .int .i64 ay, .int .i64 bx, .int .i64 bz] 48)).alloc (.cells #[.int .i64 cx, .int .i64 cy, .int .i64 dx, .int .i64 dy] 48)).alloc (.cells #[.int .i64 0, .int .i64 0, .int .i64 0, .int .i64 0] 48)) from ((nw_alloc _ _).alloc _).alloc _)
  clear hR
  obtain ⟨b, hb⟩ : ∃ b, (k == 3) = b := ⟨_, rfl⟩
  have HV := Lib.hid (show Value.tuple #[sV (if k = 3 then ((f1, f2), (l1, l2)) else ((0, 0), (0, 0))).1.1 (if k = 3 then ((f1, f2), (l1, l2)) else ((0, 0), (0, 0))).1.2 (if k = 3 then ((f1, f2), (l1, l2)) else ((0, 0), (0, 0))).2.1 (if k = 3 then ((f1, f2), (l1, l2)) else ((0, 0), (0, 0))).2.2, .bool (k == 3)] = if b then .tuple #[sV f1 f2 l1 l2, .bool true] else .tuple #[sV 0 0 0 0, .bool false] by
    rw [hb]
    cases b
    · rw [if_neg (by simpa using hb)]; rfl
    · rw [if_pos (by simpa using hb)]; rfl)
  rw [HV.out]
  go_enter Try.func54, Try.ntmps54
  go_upto_region 2 with (first | (go_at_call 101; ((with_reducible refine (Calls.kept_first (c1 _)).mono ?_); rintro e _ ⟨rfl, p, rfl⟩)) | fail)
  obtain ⟨g1, hg1⟩ : ∃ g, p.wd.heap.size = g := ⟨_, rfl⟩
  have hb1 := Blk.new_at p.wd 48 #[.int .i64 f1, .int .i64 f2, .int .i64 l1, .int .i64 l2] hg1
  have hr1 := (HR.out.kept p).alloc (.cells #[.int .i64 f1, .int .i64 f2, .int .i64 l1, .int .i64 l2] 48)
  have hn1 := (HW.out.tr p.since).alloc (.cells #[.int .i64 f1, .int .i64 f2, .int .i64 l1, .int .i64 l2] 48)
  rw [hg1]
  generalize p.wd.alloc (.cells #[.int .i64 f1, .int .i64 f2, .int .i64 l1, .int .i64 l2] 48) = w1 at hb1 hr1 hn1 ⊢
  have HN1 := Lib.hid hn1
  have HR1 := Lib.hid hr1
  obtain ⟨z0, z1, z2, z3, _, _, _, _⟩ := hb1.four
  obtain ⟨t0, t1, t2, t3, r0, r1, r2, r3⟩ := hr1.four
  clear hn1 hg1 hb1 hr1
  have HV := Lib.hid hb
  clear HV
  cases b
  · go_wp2_with fail
    generalize hw9 : World.setCell _ _ _ = w9
    have h9 : Blk w9 (w.heap.size + 1 + 1) 48 #[.int .i64 0, .int .i64 0, .int .i64 0, .int .i64 0] := by rw [← hw9]; exact (HR1.out.lay4a _ _).lay4b _ _
    have hn9 : Nw w w9 := by rw [← hw9]; exact ((((HN1.out.new HRL.out _ _).new HRL.out _ _).new HRL.out _ _).new HRL.out _ _)
    obtain ⟨x0, x1, x2, x3, _, _, _, _⟩ := h9.four
    exact bodyPost_ret (v := .tuple #[sV 0 0 0 0, .bool false]) (by simp [results, Try.results54, go_sem, x0, x1, x2, x3]) rfl ⟨rfl, hn9⟩
  · go_wp2_with fail
    generalize hw9 : World.setCell _ _ _ = w9
    have h9 : Blk w9 (w.heap.size + 1 + 1) 48 #[.int .i64 f1, .int .i64 f2, .int .i64 l1, .int .i64 l2] := by rw [← hw9]; exact (HR1.out.lay4a _ _).lay4b _ _
    have hn9 : Nw w w9 := by rw [← hw9]; exact ((((HN1.out.new HRL.out _ _).new HRL.out _ _).new HRL.out _ _).new HRL.out _ _)
    obtain ⟨x0, x1, x2, x3, _, _, _, _⟩ := h9.four
    exact bodyPost_ret (v := .tuple #[sV f1 f2 l1 l2, .bool true]) (by simp [results, Try.results54, go_sem, x0, x1, x2, x3]) rfl ⟨rfl, hn9⟩

end Go.Proofs.Ytahamffngmdjfaa.W
