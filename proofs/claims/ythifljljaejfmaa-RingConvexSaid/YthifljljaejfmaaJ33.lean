/-
  ring: areApart. No condition.
-/
import Derived.Test.YthifljljaejfmaaJ23
import Derived.Test.YthifljljaejfmaaJ21
import Derived.BigFrame
import Derived.BigGuard
namespace Go.Proofs.Ythifljljaejfmaa.W
open Go.RowKit Go.Proofs.Ythifljljaejfmaa.V Go.Proofs.Ythifljljaejfmaa.G


set_option maxRecDepth 100000 in
set_option maxHeartbeats 6400000 in
theorem areApart_any (ax ay bx bz cx cy dx dy : Int) (w : World) : Calls Try.prog 39 #[sV ax ay bx bz, sV cx cy dx dy] w fun e w' => e = .returned (.bool (apartE ((ax, ay), (bx, bz)) ((cx, cy), (dx, dy)))) ∧ Nw w w' := by
  have hmix := mixed7
  have hA : apartE ((ax, ay), (bx, bz)) ((cx, cy), (dx, dy)) = (decide (max ax bx < min cx dx) || decide (max cx dx < min ax bx) || decide (max ay bz < min cy dy) || decide (max cy dy < min ay bz)) := rfl
  rw [hA]
  clear hA
  have hb0 : Blk ((w.alloc (.cells #[.int .i64 ax, .int .i64 ay, .int .i64 bx, .int .i64 bz] 47)).alloc (.cells #[.int .i64 cx, .int .i64 cy, .int .i64 dx, .int .i64 dy] 47)) (w.heap.size) 47 #[.int .i64 ax, .int .i64 ay, .int .i64 bx, .int .i64 bz] := (Blk.new_at w 47 #[.int .i64 ax, .int .i64 ay, .int .i64 bx, .int .i64 bz] (n := w.heap.size) (by simp)).alloc _
  have q0 := hb0.cell 0
  have q1 := hb0.cell 1
  have q2 := hb0.cell 2
  have q3 := hb0.cell 3
  have hb1 : Blk ((w.alloc (.cells #[.int .i64 ax, .int .i64 ay, .int .i64 bx, .int .i64 bz] 47)).alloc (.cells #[.int .i64 cx, .int .i64 cy, .int .i64 dx, .int .i64 dy] 47)) (w.heap.size + 1) 47 #[.int .i64 cx, .int .i64 cy, .int .i64 dx, .int .i64 dy] := Blk.new_at (w.alloc (.cells #[.int .i64 ax, .int .i64 ay, .int .i64 bx, .int .i64 bz] 47)) 47 #[.int .i64 cx, .int .i64 cy, .int .i64 dx, .int .i64 dy] (n := w.heap.size + 1) (by simp)
  have q4 := hb1.cell 0
  have q5 := hb1.cell 1
  have q6 := hb1.cell 2
  have q7 := hb1.cell 3
  obtain ⟨W, hW⟩ : ∃ W, ((w.alloc (.cells #[.int .i64 ax, .int .i64 ay, .int .i64 bx, .int .i64 bz] 47)).alloc (.cells #[.int .i64 cx, .int .i64 cy, .int .i64 dx, .int .i64 dy] 47)) = W := ⟨_, rfl⟩
  rw [hW] at q0 q1 q2 q3 q4 q5 q6 q7
  have HW := Lib.hid (show Nw w W by rw [← hW]; exact (nw_alloc _ _).alloc _)
  clear hb0 hb1
  obtain ⟨M1, hM1⟩ : ∃ m, max ax bx = m := ⟨_, rfl⟩
  obtain ⟨M3, hM3⟩ : ∃ m, max cx dx = m := ⟨_, rfl⟩
  obtain ⟨M2, hM2⟩ : ∃ m, max ay bz = m := ⟨_, rfl⟩
  obtain ⟨M4, hM4⟩ : ∃ m, max cy dy = m := ⟨_, rfl⟩
  obtain ⟨m3, hm3⟩ : ∃ m, min cx dx = m := ⟨_, rfl⟩
  obtain ⟨m1, hm1⟩ : ∃ m, min ax bx = m := ⟨_, rfl⟩
  obtain ⟨m4, hm4⟩ : ∃ m, min cy dy = m := ⟨_, rfl⟩
  obtain ⟨m2, hm2⟩ : ∃ m, min ay bz = m := ⟨_, rfl⟩
  rw [hM1, hm3, hM3, hm1, hM2, hm4, hM4, hm2]
  by_cases g0 : M1 < m3
  · have f0 : decide (M1 < m3) = true := decide_eq_true g0
    clear g0
    go_enter Try.func39, Try.ntmps39
    go_step
    iterate 14 go_step
    simp only [List.append_eq, List.cons_append, List.nil_append]
    go_wp2_with fail
    go_ret
    exact ⟨by simp [f0], HW.out⟩
  have f0 : decide (M1 < m3) = false := decide_eq_false g0
  by_cases g1 : M3 < m1
  · have f1 : decide (M3 < m1) = true := decide_eq_true g1
    clear g0 g1
    go_enter Try.func39, Try.ntmps39
    go_step
    iterate 14 go_step
    simp only [List.append_eq, List.cons_append, List.nil_append]
    go_wp2_with fail
    go_ret
    exact ⟨by simp [f0, f1], HW.out⟩
  have f1 : decide (M3 < m1) = false := decide_eq_false g1
  by_cases g2 : M2 < m4
  · have f2 : decide (M2 < m4) = true := decide_eq_true g2
    clear g0 g1 g2
    go_enter Try.func39, Try.ntmps39
    go_step
    iterate 14 go_step
    simp only [List.append_eq, List.cons_append, List.nil_append]
    go_wp2_with fail
    go_ret
    exact ⟨by simp [f0, f1, f2], HW.out⟩
  have f2 : decide (M2 < m4) = false := decide_eq_false g2
  by_cases g3 : M4 < m2
  · have f3 : decide (M4 < m2) = true := decide_eq_true g3
    clear g0 g1 g2 g3
    go_enter Try.func39, Try.ntmps39
    go_step
    iterate 14 go_step
    simp only [List.append_eq, List.cons_append, List.nil_append]
    go_wp2_with fail
    go_ret
    exact ⟨by simp [f0, f1, f2, f3], HW.out⟩
  have f3 : decide (M4 < m2) = false := decide_eq_false g3
  clear g0 g1 g2 g3
  go_enter Try.func39, Try.ntmps39
  go_step
  iterate 14 go_step
  simp only [List.append_eq, List.cons_append, List.nil_append]
  go_wp2_with fail
  go_ret
  exact ⟨by simp [f0, f1, f2, f3], HW.out⟩

end Go.Proofs.Ythifljljaejfmaa.W
