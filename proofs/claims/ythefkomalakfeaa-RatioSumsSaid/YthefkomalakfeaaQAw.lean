/-
  awake: the examples of the document hold. No condition.
-/
import Derived.Test.YthefkomalakfeaaQA
namespace Go.Proofs.Ythefkomalakfeaa.W
open Go.RowKit Go.Proofs.Ythefkomalakfeaa.Q

theorem aw1 : ofR 6 (-4) = (-3, 2, 0) := by decide +kernel
theorem aw2 : sumR [(1, 3), (1, 6), (1, 2)] = (1, 1, 0) := by decide +kernel
theorem aw3 : mulR 4611686018427387904 1 2 3 = (0, 0, 2) := by decide +kernel
theorem aw4 : floorR (-3) 2 = -2 := by decide +kernel

set_option maxRecDepth 100000 in
set_option maxHeartbeats 3200000 in
theorem awake_any (w : World) : Calls Try.prog 9 #[] w fun e w' => e = .returned (.bool true) ∧ Nw w w' := by
  have h1 := fun w1 => of_any 6 (-4) ⟨by omega, by omega⟩ ⟨by omega, by omega⟩ w1
  have h2 := fun v w1 h => sum_any [(1, 3), (1, 6), (1, 2)] v w1 h (by intro p hp; simp at hp; rcases hp with rfl | rfl | rfl <;> exact ⟨⟨by simp, by simp⟩, ⟨by simp, by simp⟩⟩) (by simp)
  have h3 := fun w1 => mul_any 4611686018427387904 1 2 3 ⟨by omega, by omega⟩ ⟨by omega, by omega⟩ ⟨by omega, by omega⟩ ⟨by omega, by omega⟩ w1
  have h4 := fun w1 => floor_any (-3) 2 ⟨by omega, by omega⟩ ⟨by omega, by omega⟩ w1
  rw [aw1] at h1
  rw [aw2] at h2
  rw [aw3] at h3
  rw [aw4] at h4
  go_enter Try.func9, Try.ntmps9
  go_wp2_with fail
  refine (h1 _).mono ?_
  rintro e w1 ⟨rfl, hk1⟩
  have hb1 := Blk.new w1 23 #[.int .i64 (-3), .int .i64 2]
  go_wp2_with fail
  refine (h2 _ _ (src_blk (l := [(1, 3), (1, 6), (1, 2)]) (Blk.new_at _ _ _ (n := w1.heap.size + 1) (by simp)) (by simp))).mono ?_
  rintro e w2 ⟨rfl, hk2⟩
  have hb1 := (hb1.alloc _).kp hk2 id
  have hb2 := Blk.new w2 23 #[.int .i64 1, .int .i64 1]
  go_wp2_with fail
  refine (h3 _).mono ?_
  rintro e w3 ⟨rfl, hk3⟩
  have hb1 := ((hb1.alloc _).kp hk3 id).alloc (.cells #[.int .i64 0, .int .i64 0] 23)
  have hb2 := (hb2.kp hk3 id).alloc (.cells #[.int .i64 0, .int .i64 0] 23)
  obtain ⟨p0, p1, _, _⟩ := hb1.two
  obtain ⟨q0, q1, _, _⟩ := hb2.two
  go_wp2_with fail
  refine (h4 _).mono ?_
  rintro e w4 ⟨rfl, hk4⟩
  go_wp2
  go_ret
  exact ⟨rfl, (((((hk1.alloc _).alloc _).tr hk2).alloc _).tr hk3).alloc _ |>.tr hk4⟩
end Go.Proofs.Ythefkomalakfeaa.W
