/-
  The reference's Meet, Share and At: what they return. No condition.
-/
import Derived.Test.YthifljljaejfmaaJ30
namespace Go.Proofs.Ythifljljaejfmaa.W
open Go.RowKit Go.Proofs.Ythifljljaejfmaa.V Go.Proofs.Ythifljljaejfmaa.G

theorem asc_len {L : List (Int × Int)} (h : Asc L) : (L = [] ↔ L.length = 0) ∧ (L ≠ [] → (firstV L = lastV L ↔ L.length = 1)) := by
  refine ⟨List.length_eq_zero_iff.symm, fun hne => ?_⟩
  match L, h with
  | [x], _ => simp [firstV, lastV]
  | x :: y :: r, h =>
    have hl := lastV_is h (by simp)
    constructor
    · intro e
      have h1 := (List.pairwise_cons.1 h).1
      have h2 : lastV (x :: y :: r) ∈ y :: r := by
        show (List.getLast? (x :: y :: r)).getD (0, 0) ∈ y :: r
        rw [List.getLast?_cons_cons, List.getLast?_eq_some_getLast (by simp)]
        exact List.getLast_mem _
      have h3 := h1 _ h2
      rw [← e] at h3
      exact absurd h3 (ltV_irrefl _)
    · intro e
      simp at e

theorem kind_valid {ax ay bx bz cx cy dx dy : Int} (h : kindS ax ay bx bz cx cy dx dy ≠ 0) : validS ax ay bx bz = true ∧ validS cx cy dx dy = true := by
  apply Classical.byContradiction
  intro hn
  exact h (kind_inv hn)
theorem com_first {ax ay bx bz cx cy dx dy : Int} (hk : kindS ax ay bx bz cx cy dx dy = 1 ∨ kindS ax ay bx bz cx cy dx dy = 3) : 0 < (comS ax ay bx bz cx cy dx dy).length ∧ (comS ax ay bx bz cx cy dx dy)[0]? = some (partsS ax ay bx bz cx cy dx dy).1 ∧ (comS ax ay bx bz cx cy dx dy)[(comS ax ay bx bz cx cy dx dy).length - 1]? = some (partsS ax ay bx bz cx cy dx dy).2 := by
  obtain ⟨h1, h2⟩ := kind_valid (ax := ax) (ay := ay) (bx := bx) (bz := bz) (cx := cx) (cy := cy) (dx := dx) (dy := dy) (by omega)
  have hne : comS ax ay bx bz cx cy dx dy ≠ [] := by
    intro e
    unfold kindS at hk
    rw [h1, h2, Bool.and_self, if_pos rfl, e] at hk
    simp only [List.isEmpty_nil, if_true] at hk
    split at hk <;> omega
  have hp : partsS ax ay bx bz cx cy dx dy = (firstV (comS ax ay bx bz cx cy dx dy), lastV (comS ax ay bx bz cx cy dx dy)) := by
    unfold partsS
    rw [h1, h2, Bool.and_self, Bool.true_and]
    cases hL : comS ax ay bx bz cx cy dx dy with
    | nil => exact absurd hL hne
    | cons x r => rfl
  rw [hp]
  generalize comS ax ay bx bz cx cy dx dy = L at *
  cases L with
  | nil => exact absurd rfl hne
  | cons x r =>
    refine ⟨by simp, rfl, ?_⟩
    show (x :: r)[(x :: r).length - 1]? = some (lastV (x :: r))
    unfold lastV
    rw [← List.getLast?_eq_getElem?, List.getLast?_eq_some_getLast (by simp)]
    rfl

end Go.Proofs.Ythifljljaejfmaa.W
