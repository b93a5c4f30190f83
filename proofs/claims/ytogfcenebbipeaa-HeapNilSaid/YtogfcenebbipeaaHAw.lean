/-
  fretsawlaw03.awake: the document's example holds. No condition.
-/
import Derived.Test.YtogfcenebbipeaaHNs
import Derived.Test.YtogfcenebbipeaaHIs
namespace Go.Proofs.Ytogfcenebbipeaa.W
open Go.RowKit Go.Proofs.Ytogfcenebbipeaa.Pl

theorem r25 : rkN 25 = 2 := by unfold rkN wrap64; decide
theorem r13 : rkN 13 = 1 := by unfold rkN wrap64; decide
theorem r21 : rkN 21 = 2 := by unfold rkN wrap64; decide
theorem r11 : rkN 11 = 1 := by unfold rkN wrap64; decide
theorem exampleN : sortV rkN [(25, 0), (13, 0), (21, 0), (11, 0)] [] = [(13, 0), (11, 0), (25, 0), (21, 0)] := by simp [sortV, insV, r25, r13, r21, r11]
theorem exampleSrc (w : World) : SrcN (w.alloc (.cells #[.int .i64 25, .int .i64 13, .int .i64 21, .int .i64 11] 3)) (.slice (some ⟨w.heap.size, 0, none⟩) 4 4) [(25, 0), (13, 0), (21, 0), (11, 0)] := by
  refine ⟨rfl, some ⟨w.heap.size, 0, none⟩, 4, rfl, Nat.le_refl _, by decide, fun _ => ⟨w.heap.size, 0, rfl, by simp, fun j u hu => ?_⟩⟩
  rw [Nat.zero_add, (Blk.new w 3 _).cell j]
  rw [← hu]
  rw [← Array.getElem?_toList]
  rfl

set_option maxRecDepth 100000 in
set_option maxHeartbeats 800000 in
theorem awake_any (w : World) : Calls Try.prog 10 #[] w fun e w' => e = .returned (.bool true) ∧ Nw w w' := by
  go_enter Try.func10, Try.ntmps10
  go_wp2_with fail
  refine (sortedN_any _ _ _ (exampleSrc w) (by decide)).mono ?_
  rintro e w1 ⟨u, rfl, hu, hk⟩
  rw [exampleN] at hu
  obtain ⟨g, cap, rfl, hcap, hmax, _⟩ := own_form hu (by decide)
  have h0 := hu.src.at_ rfl (i := 0) rfl
  have h1 := hu.src.at_ rfl (i := 1) rfl
  have h2 := hu.src.at_ rfl (i := 2) rfl
  have h3 := hu.src.at_ rfl (i := 3) rfl
  simp only [Nat.zero_add, List.length_cons, List.length_nil] at h0 h1 h2 h3 hcap ⊢
  go_wp2_with (go_at_call 11; ((with_reducible refine (newI_any 0 _).mono ?_); rintro e w2 ⟨rfl, _, hk2, _⟩))
  go_ret
  exact ⟨rfl, ((Kp.refl _ w).alloc _ |>.tr hk).tr hk2⟩
end Go.Proofs.Ytogfcenebbipeaa.W
