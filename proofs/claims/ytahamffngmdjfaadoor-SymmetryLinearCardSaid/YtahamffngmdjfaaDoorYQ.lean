/-
  symmetry, plain: the maps are additive, keep the scalar product and the norm, and the cross product but for the sign. Condition: coordinates within 2^28.
-/
import Derived.Test.YtahamffngmdjfaaDoorYP
import Derived.Test.YtahamffngmdjfaaDoorVPn
namespace Go.Proofs.YtahamffngmdjfaaDoor.G
open Go.RowKit Go.Proofs.YtahamffngmdjfaaDoor.V

theorem w64_mulr' (a b : Int) : w64 (a * w64 b) = w64 (a * b) := by rw [Int.mul_comm, w64_mull, Int.mul_comm]
set_option maxHeartbeats 1600000 in
theorem mapV_lin {n ax ay bx bz x1 y1 x2 y2 sg : Int} (hn : validT n = true) (ha : Sm ax ay) (hb : Sm bx bz) (h1 : mapV n ax ay = (x1, y1)) (h2 : mapV n bx bz = (x2, y2)) (hs : (if decide (4 ≤ n) then (-1 : Int) else 1) = sg) :
    mapV n (w64 (ax + bx)) (w64 (ay + bz)) = (w64 (x1 + x2), w64 (y1 + y2)) ∧ dotV x1 y1 x2 y2 = dotV ax ay bx bz ∧ crossV x1 y1 x2 y2 = w64 (sg * crossV ax ay bx bz) ∧ normV x1 y1 = normV ax ay := by
  unfold Sm at ha hb
  have e1 : n64 ax = -ax := w64_id (by unfold I64; omega)
  have e2 : n64 ay = -ay := w64_id (by unfold I64; omega)
  have e3 : n64 bx = -bx := w64_id (by unfold I64; omega)
  have e4 : n64 bz = -bz := w64_id (by unfold I64; omega)
  have e5 : w64 (ax + bx) = ax + bx := w64_id (by unfold I64; omega)
  have e6 : w64 (ay + bz) = ay + bz := w64_id (by unfold I64; omega)
  have e7 : n64 (ax + bx) = -(ax + bx) := w64_id (by unfold I64; omega)
  have e8 : n64 (ay + bz) = -(ay + bz) := w64_id (by unfold I64; omega)
  have e9 : w64 (-(ax + bx)) = -(ax + bx) := e7
  have e10 : w64 (-(ay + bz)) = -(ay + bz) := e8
  have hN : ∀ p q p' q' : Int, (-268435456 ≤ p ∧ p ≤ 268435456) → (-268435456 ≤ q ∧ q ≤ 268435456) → (-268435456 ≤ p' ∧ p' ≤ 268435456) → (-268435456 ≤ q' ∧ q' ≤ 268435456) → (p.natAbs = p'.natAbs ∧ q.natAbs = q'.natAbs ∨ p.natAbs = q'.natAbs ∧ q.natAbs = p'.natAbs) → normV p q = normV p' q' := by
    intro p q p' q' hp hq hp' hq' h
    rw [norm_small (by omega) (by omega), norm_small (by omega) (by omega)]
    omega
  unfold crossV
  rw [w64_mulr']
  rcases validT_cases hn with rfl | rfl | rfl | rfl | rfl | rfl | rfl | rfl
  all_goals
    simp only [mapV0, mapV1, mapV2, mapV3, mapV4, mapV5, mapV6, mapV7, e1, e2, e3, e4, Prod.mk.injEq] at h1 h2
    obtain ⟨rfl, rfl⟩ := h1
    obtain ⟨rfl, rfl⟩ := h2
    refine ⟨?_, ?_, ?_, hN _ _ _ _ (by omega) (by omega) (by omega) (by omega) (by omega)⟩
    · simp only [mapV0, mapV1, mapV2, mapV3, mapV4, mapV5, mapV6, mapV7, e5, e6, e7, e8, ← Int.neg_add, e9, e10]
    · unfold dotV
      first
      | rfl
      | (congr 1; done)
      | (congr 1; grind)
    · first
      | (obtain rfl : (1 : Int) = sg := hs; congr 1; grind)
      | (obtain rfl : (-1 : Int) = sg := hs; congr 1; grind)
end Go.Proofs.YtahamffngmdjfaaDoor.G
