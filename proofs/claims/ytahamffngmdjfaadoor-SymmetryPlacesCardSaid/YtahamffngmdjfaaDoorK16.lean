/-
  seg: At: the only point that two segments have in common. No condition.
  awake: the examples of layer 7 hold. No condition.
-/
import Derived.Test.YtahamffngmdjfaaDoorK15
namespace Go.Proofs.YtahamffngmdjfaaDoor.W
open Go.RowKit Go.Proofs.YtahamffngmdjfaaDoor.V Go.Proofs.YtahamffngmdjfaaDoor.G

theorem valid_lm {ax ay bx bz : Int} (h : validS ax ay bx bz = true) : Lm ax ay ∧ Lm bx bz := by
  unfold validS withinV at h
  rw [show w64 (-4000) = -4000 from w64_id ⟨by omega, by omega⟩] at h
  simp at h
  unfold Lm
  omega
theorem turn_lm {ax ay bx bz cx cy : Int} (ha : Lm ax ay) (hb : Lm bx bz) (hc : Lm cx cy) : turnV ax ay bx bz cx cy = sgn (crs ax ay bx bz cx cy) := by
  unfold Lm at ha hb hc
  unfold turnV crs
  have h1 := abs_le_mul (x := bx - ax) (y := cy - ay) (A := 8000) (B := 8000) (by omega) (by omega)
  have h2 := abs_le_mul (x := bz - ay) (y := cx - ax) (A := 8000) (B := 8000) (by omega) (by omega)
  rw [w64_id ⟨by omega, by omega⟩]
theorem part_lm {ax ay bx bz cx cy dx dy : Int} (ha : Lm ax ay) (hb : Lm bx bz) (hc : Lm cx cy) (hd : Lm dx dy) : partS ax ay bx bz cx cy dx dy = true ↔ Prt ax ay bx bz cx cy dx dy := by
  unfold partS Prt
  rw [turn_lm ha hb hc, turn_lm ha hb hd, decide_eq_true_eq]
  generalize crs ax ay bx bz cx cy = x
  generalize crs ax ay bx bz dx dy = y
  rcases sgn_cases x with ⟨h, e⟩ | ⟨h, e⟩ | ⟨h, e⟩ <;> rcases sgn_cases y with ⟨g, k⟩ | ⟨g, k⟩ | ⟨g, k⟩ <;> rw [e, k]
  · exact ⟨fun h' => absurd h' (by decide), fun h' => by have := Int.mul_pos_of_neg_of_neg h g; omega⟩
  · subst g; simp
  · exact ⟨fun _ => Int.mul_neg_of_neg_of_pos h g, fun _ => by decide⟩
  · subst h; simp
  · subst h; simp
  · subst h; simp
  · exact ⟨fun _ => Int.mul_neg_of_pos_of_neg h g, fun _ => by decide⟩
  · subst g; simp
  · exact ⟨fun h' => absurd h' (by decide), fun h' => by have := Int.mul_pos h g; omega⟩
theorem kind_two {ax ay bx bz cx cy dx dy : Int} (h : kindS ax ay bx bz cx cy dx dy = 2) : (Lm ax ay ∧ Lm bx bz) ∧ (Lm cx cy ∧ Lm dx dy) ∧ Prt ax ay bx bz cx cy dx dy ∧ Prt cx cy dx dy ax ay bx bz ∧ comS ax ay bx bz cx cy dx dy = [] := by
  unfold kindS at h
  split at h
  · rename_i hv
    simp only [Bool.and_eq_true] at hv
    have v1 := valid_lm hv.1
    have v2 := valid_lm hv.2
    split at h
    · rename_i he
      split at h
      · rename_i hp
        simp only [Bool.and_eq_true] at hp
        exact ⟨v1, v2, (part_lm v1.1 v1.2 v2.1 v2.2).1 hp.1, (part_lm v2.1 v2.2 v1.1 v1.2).1 hp.2, by simpa using he⟩
      · omega
    · split at h <;> omega
  · omega
def atS (ax ay bx bz cx cy dx dy : Int) : Int × Int × Int := if kindS ax ay bx bz cx cy dx dy = 1 then ((partsS ax ay bx bz cx cy dx dy).1.1, (partsS ax ay bx bz cx cy dx dy).1.2, 1) else if kindS ax ay bx bz cx cy dx dy = 2 then crossS ax ay bx bz cx cy dx dy else (0, 0, 0)
def atV (ax ay bx bz cx cy dx dy : Int) : Value := .tuple #[pV (atS ax ay bx bz cx cy dx dy).1 (atS ax ay bx bz cx cy dx dy).2.1 (atS ax ay bx bz cx cy dx dy).2.2, .bool (kindS ax ay bx bz cx cy dx dy == 1 || kindS ax ay bx bz cx cy dx dy == 2)]

end Go.Proofs.YtahamffngmdjfaaDoor.W

namespace Go.Proofs.YtahamffngmdjfaaDoor.W
open Go.RowKit Go.Proofs.YtahamffngmdjfaaDoor.V Go.Proofs.YtahamffngmdjfaaDoor.G

theorem aw_at : atV 0 0 2 2 0 1 1 0 = .tuple #[pV 1 1 2, .bool true] := by
  have h1 : kindS 0 0 2 2 0 1 1 0 = 2 := by decide +kernel
  have h2 : crossS 0 0 2 2 0 1 1 0 = (1, 1, 2) := by decide +kernel
  unfold atV atS
  rw [h1, h2]
  rfl
theorem aw_share : shareV 0 0 4 0 6 0 2 0 = .tuple #[sV 2 0 4 0, .bool true] := by
  have h1 : kindS 0 0 4 0 6 0 2 0 = 3 := by decide +kernel
  have h2 : partsS 0 0 4 0 6 0 2 0 = ((2, 0), (4, 0)) := by decide +kernel
  unfold shareV shareS
  rw [h1, h2]
  rfl
theorem aw_valid : validP 1 1 2 = true := by decide +kernel
end Go.Proofs.YtahamffngmdjfaaDoor.W
