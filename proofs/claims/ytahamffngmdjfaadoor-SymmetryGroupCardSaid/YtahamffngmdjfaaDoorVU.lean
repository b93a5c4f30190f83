/-
  vec: Clone; Sorted of a list whose sorted form has no two equal neighbours: what they return. Condition: the list is not longer than a slice may be.
-/
import Derived.Test.YtahamffngmdjfaaDoorVT
namespace Go.Proofs.YtahamffngmdjfaaDoor.W
open Go.RowKit Go.Proofs.YtahamffngmdjfaaDoor.V

theorem vec_info : ∃ i0, Tryd.prog.info? 23 = some i0 ∧ i0.zero = some (vV 0 0) ∧ i0.size = 2 ∧ i0.bytes = 16 :=
  ⟨(Tryd.prog.info? 23).get (by kernel_rfl), by kernel_rfl, by kernel_rfl, by kernel_rfl, by kernel_rfl⟩

/-- the value is nil, or it lies in a block's own cells -/
def Flat (v : Value) : Prop := v = .slice none 0 0 ∨ ∃ g o n c, v = .slice (some ⟨g, o, none⟩) n c
theorem SrcV.flat {w : World} {v : Value} {l : List (Int × Int)} (h : SrcV w v l) (hne : l ≠ []) : Flat v := by
  obtain ⟨_, A, c, rfl, _, _, hc⟩ := h
  obtain ⟨g, o, rfl, _⟩ := hc (List.length_pos_iff.2 hne)
  exact .inr ⟨g, o, _, _, rfl⟩
theorem flatV_one (l : List (Int × Int)) : ∀ u ∈ l.flatMap vC, u.oneCell' = true := by
  intro u hu
  obtain ⟨p, _, hp⟩ := List.mem_flatMap.1 hu
  simp [vC] at hp
  rcases hp with rfl | rfl <;> rfl

theorem src_holds {w : World} {g cap : Nat} {l : List (Int × Int)} {n : Nat} (h : Sort.HoldsK vC 2 w g 0 l.toArray) (hg : g < w.heap.size) (hn : l.length = n) (hc : n ≤ cap) (hm : cap ≤ maxLen) : SrcV w (.slice (some ⟨g, 0, none⟩) n cap) l := by
  subst hn
  refine ⟨flatV_len l, _, _, rfl, hc, hm, fun _ => ⟨g, 0, rfl, hg, fun j u hu => ?_⟩⟩
  have hj : j < l.length * 2 := by
    obtain ⟨h, _⟩ := List.getElem?_eq_some_iff.1 hu
    rwa [flatV_len] at h
  have hq : j / 2 < l.length := by omega
  have hx : l[j / 2]? = some (l[j / 2]'hq) := List.getElem?_eq_getElem hq
  obtain ⟨f1, f2⟩ := flatV_at l (j / 2) _ hx
  have h1 := h j (by rw [Sort.size_flatK]; simpa using hj)
  rw [Sort.get_flatK _ _ _ _ (by simpa using hj), show (l.toArray)[j / 2]! = l[j / 2]'hq by simp [hq]] at h1
  refine h1.1.trans ?_
  rcases Nat.mod_two_eq_zero_or_one j with h | h
  · rw [h]
    rw [show j / 2 * 2 = j by omega, hu] at f1
    exact f1.symm
  · rw [h]
    rw [show j / 2 * 2 + 1 = j by omega, hu] at f2
    exact f2.symm

end Go.Proofs.YtahamffngmdjfaaDoor.W
