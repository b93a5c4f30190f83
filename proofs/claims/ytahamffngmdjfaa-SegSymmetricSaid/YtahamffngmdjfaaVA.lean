/-
  awake: the examples of the document hold. No condition.
-/
import Derived.Test.YtahamffngmdjfaaVU
namespace Go.Proofs.Ytahamffngmdjfaa.W
open Go.RowKit Go.Proofs.Ytahamffngmdjfaa.V

theorem aw_sort : sortV [(3, 0), (0, 1), (2, 0)] = [(2, 0), (3, 0), (0, 1)] := by
  simp [sortV, List.mergeSort, List.MergeSort.Internal.splitInTwo, lt_cf, lessV]
theorem aw_apart : Apart [(2, 0), (3, 0), (0, 1)] := by
  intro i p q hp hq
  match i with
  | 0 => simp at hp hq; subst hp hq; simp
  | 1 => simp at hp hq; subst hp hq; simp
  | i + 2 => simp at hq
theorem aw_turn : turnV 0 0 4 0 1 2 = 1 := by decide +kernel
theorem aw_within : withinV 2 0 2 = true := by decide +kernel
theorem aw_norm : normV 3 0 = 3 := by decide +kernel
theorem src_blk {w : World} {g : Nat} {l : List (Int × Int)} (h : Blk w g 23 (l.flatMap vC).toArray) (hl : l.length ≤ 1099511627776) : SrcV w (.slice (some ⟨g, 0, none⟩) l.length l.length) l := by
  refine ⟨flatV_len l, _, _, rfl, Nat.le_refl _, by unfold maxLen; omega, fun _ => ⟨g, 0, rfl, h.lt, fun j u hu => ?_⟩⟩
  rw [Nat.zero_add, h.cell j, List.getElem?_toArray]
  exact hu

set_option maxRecDepth 100000 in
set_option maxHeartbeats 3200000 in
theorem awake_any (w : World) : Calls Try.prog 21 #[] w fun e w' => e = .returned (.bool true) ∧ Nw w w' := by
  have c0 : ∀ w1, SrcV w1 (.slice (some ⟨w.heap.size, 0, none⟩) 3 3) [(3, 0), (0, 1), (2, 0)] → Calls Try.prog 47 #[.slice (some ⟨w.heap.size, 0, none⟩) 3 3] w1 fun e w' => ∃ k cap, w1.heap.size ≤ k ∧ k < w'.heap.size ∧ e = .returned (.slice (some ⟨k, 0, none⟩) 3 cap) ∧ SrcV w' (.slice (some ⟨k, 0, none⟩) 3 cap) [(2, 0), (3, 0), (0, 1)] ∧ Nw w1 w' := fun w1 h => by
    have h := sorted_apart [(3, 0), (0, 1), (2, 0)] (.slice (some ⟨w.heap.size, 0, none⟩) 3 3) w1 h (by simp) (by rw [aw_sort]; exact aw_apart) (by simp)
    rw [aw_sort] at h
    exact h
  have c1 := fun w1 => turn_any 0 0 4 0 1 2 w1
  rw [aw_turn] at c1
  have c2 := fun w1 => within_any 2 0 2 w1
  rw [aw_within] at c2
  have c3 := fun w1 => norm_any 3 0 w1
  rw [aw_norm] at c3
  go_enter Try.func21, Try.ntmps21
  go_wp2_with fail
  refine (c0 _ (src_blk (l := [(3, 0), (0, 1), (2, 0)]) (Blk.new w _ _) (by simp))).mono ?_
  rintro e w1 ⟨k, cap, hk, hkw, rfl, hs, hk1⟩
  have hK := (nw_alloc w (.cells #[.int .i64 3, .int .i64 0, .int .i64 0, .int .i64 1, .int .i64 2, .int .i64 0] 23)).tr hk1
  obtain ⟨_, A, c, hA, _, _, hc⟩ := hs
  injection hA with h1 h2 h3
  subst h1
  obtain ⟨g', o', he, _, hc⟩ := hc (by simp)
  injection he with he
  injection he with h4 h5
  subst h4 h5
  have HK := Lib.hid hK
  have hP : ∀ w' : World, Nw w1 w' → w'.cell? (⟨k, 0, none⟩ : Addr) = some (.int .i64 2) ∧ w'.cell? (⟨k, 1, none⟩ : Addr) = some (.int .i64 0) ∧ w'.cell? (⟨k, 2, none⟩ : Addr) = some (.int .i64 3) ∧ w'.cell? (⟨k, 3, none⟩ : Addr) = some (.int .i64 0) ∧ w'.cell? (⟨k, 4, none⟩ : Addr) = some (.int .i64 0) ∧ w'.cell? (⟨k, 5, none⟩ : Addr) = some (.int .i64 1) := fun w' h => by
    have hx := fun j u hu => (h.cell (p := ⟨k, 0 + j, none⟩) hkw id).trans (hc j u hu)
    exact ⟨hx 0 _ rfl, hx 1 _ rfl, hx 2 _ rfl, hx 3 _ rfl, hx 4 _ rfl, hx 5 _ rfl⟩
  have HP := Lib.hid hP
  clear hP hc hK hk hk1 hkw
  go_wp2_with fail
  with_reducible refine (c1 _).mono ?_
  rintro e w2 ⟨rfl, hk2⟩
  obtain ⟨q0, q1, q2, q3, q4, q5⟩ := HP.out _ hk2
  have HB := Lib.hid hk2
  clear hk2
  go_wp2_with fail
  with_reducible refine (c2 _).mono ?_
  rintro e w3 ⟨rfl, hk3⟩
  have HB := Lib.hid (HB.out.tr hk3)
  clear hk3 q0 q1 q2 q3 q4 q5
  obtain ⟨q0, q1, q2, q3, q4, q5⟩ := HP.out _ HB.out
  go_wp2_with fail
  with_reducible refine (c3 _).mono ?_
  rintro e w4 ⟨rfl, hk4⟩
  have HB := Lib.hid (HB.out.tr hk4)
  clear hk4
  go_wp2
  go_ret
  exact ⟨rfl, HK.out.tr HB.out⟩
end Go.Proofs.Ytahamffngmdjfaa.W
