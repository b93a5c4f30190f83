/-
  awake: the examples of layer 7 hold. No condition.
-/
import Derived.Test.YtahamffngmdjfaaGSB
namespace Go.Proofs.Ytahamffngmdjfaa.W
open Go.RowKit Go.Proofs.Ytahamffngmdjfaa.V Go.Proofs.Ytahamffngmdjfaa.G

theorem aw_at : atV 0 0 2 2 0 1 1 0 = .tuple #[pV 1 1 2, .bool true] := by
  have h1 : kindS 0 0 2 2 0 1 1 0 = 2 := by decide +kernel
  have h2 : crossS 0 0 2 2 0 1 1 0 = (1, 1, 2) := by decide +kernel
  unfold atV atS
  rw [h1, h2]
  rfl
theorem aw_share : shareV 0 0 4 0 6 0 2 0 = .tuple #[sV 2 0 4 0, .bool true] := by
  have h1 : kindS 0 0 4 0 6 0 2 0 = 3 := by decide +kernel
  have h2 : partsS 0 0 4 0 6 0 2 0 = ((2, 0), (4, 0)) := by decide +kernel
  unfold shareV shareS
  rw [h1, h2]
  rfl
theorem aw_valid : validP 1 1 2 = true := by decide +kernel
set_option maxRecDepth 100000 in
set_option maxHeartbeats 1600000 in
theorem awake7_any (w : World) : Calls Try.prog 51 #[] w fun e w' => e = .returned (.bool true) ∧ Nw w w' := by
  have c1 := fun w1 => at_any 0 0 2 2 0 1 1 0 w1
  have c2 := fun w1 => share_any 0 0 4 0 6 0 2 0 w1
  have c3 := fun w1 => validPoint_any 1 1 2 w1
  rw [aw_at] at c1
  rw [aw_share] at c2
  rw [aw_valid] at c3
  have h1 := fun w1 => eql_pt 1 1 2 1 1 2 w1
  have h2 := fun w1 => eql_seg 2 0 4 0 2 0 4 0 w1
  simp only [beq_self_eq_true, Bool.and_self] at h1 h2
  go_enter Try.func51, Try.ntmps51
  go_upto_region 2 with (first | (go_at_call 52; ((with_reducible refine (Calls.kept_first (c1 _)).mono ?_); rintro e _ ⟨rfl, p, rfl⟩)) | fail)
  obtain ⟨g1, hg1⟩ : ∃ g, p.wd.heap.size = g := ⟨_, rfl⟩
  have hbb := Blk.new_at p.wd 50 #[.int .i64 1, .int .i64 1, .int .i64 2] hg1
  have hn1 := p.since.alloc (.cells #[.int .i64 1, .int .i64 1, .int .i64 2] 50)
  rw [hg1]
  generalize p.wd.alloc (.cells #[.int .i64 1, .int .i64 1, .int .i64 2] 50) = w1 at hbb hn1 ⊢
  clear hg1
  have HN1 := Lib.hid hn1
  have HB1 := Lib.hid hbb
  clear hn1 hbb
  go_upto_region 3 with (first | (go_at_call 54; ((with_reducible refine (Calls.kept_first (c2 _)).mono ?_); rintro e _ ⟨rfl, p, rfl⟩)) | fail)
  have hb1 := (HB1.out.kept p).alloc (.cells #[.int .i64 2, .int .i64 0, .int .i64 4, .int .i64 0] 48)
  obtain ⟨g2, hg1⟩ : ∃ g, p.wd.heap.size = g := ⟨_, rfl⟩
  have hbb := Blk.new_at p.wd 48 #[.int .i64 2, .int .i64 0, .int .i64 4, .int .i64 0] hg1
  have hn1 := p.since.alloc (.cells #[.int .i64 2, .int .i64 0, .int .i64 4, .int .i64 0] 48)
  rw [hg1]
  generalize p.wd.alloc (.cells #[.int .i64 2, .int .i64 0, .int .i64 4, .int .i64 0] 48) = w2 at hbb hn1 hb1 ⊢
  clear hg1
  have HN2 := Lib.hid hn1
  obtain ⟨z0, z1, z2, _, _, _⟩ := hb1.three
  obtain ⟨y0, y1, y2, y3, _, _, _, _⟩ := hbb.four
  clear hn1 hbb hb1
  go_wp2_with (first | (go_at_call 68; ((with_reducible refine (Calls.kept_first (c3 _)).mono ?_); rintro e _ ⟨rfl, p, rfl⟩)) | fail)
  go_ret
  exact ⟨rfl, (HN1.out.tr HN2.out).tr p.since⟩
end Go.Proofs.Ytahamffngmdjfaa.W
