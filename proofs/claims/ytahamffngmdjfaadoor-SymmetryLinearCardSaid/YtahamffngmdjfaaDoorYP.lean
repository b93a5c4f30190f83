/-
  symmetry, plain: the eight symmetries of the square as maps of vectors, their products, inverses, and the grain. No condition.
-/
import Derived.Test.YtahamffngmdjfaaDoorVPl
namespace Go.Proofs.YtahamffngmdjfaaDoor.G
open Go.RowKit Go.Proofs.YtahamffngmdjfaaDoor.V

def n64 (x : Int) : Int := w64 (-x)
theorem n64_i64 (x : Int) : I64 (n64 x) := w64_i64 _
theorem n64_n64 {x : Int} (h : I64 x) : n64 (n64 x) = x := by
  unfold n64
  rw [w64_neg, Int.neg_neg, w64_id h]
def validT (t : Int) : Bool := decide (0 ≤ t) && decide (t < 8)
/-- where the symmetry t maps (x, y) -/
def mapV (t x y : Int) : Int × Int :=
  if t = 1 then (n64 y, x) else if t = 2 then (n64 x, n64 y) else if t = 3 then (y, n64 x) else if t = 4 then (n64 x, y)
  else if t = 5 then (n64 y, n64 x) else if t = 6 then (x, n64 y) else if t = 7 then (y, x) else (x, y)
theorem mapV0 (x y : Int) : mapV 0 x y = (x, y) := rfl
theorem mapV1 (x y : Int) : mapV 1 x y = (n64 y, x) := rfl
theorem mapV2 (x y : Int) : mapV 2 x y = (n64 x, n64 y) := rfl
theorem mapV3 (x y : Int) : mapV 3 x y = (y, n64 x) := rfl
theorem mapV4 (x y : Int) : mapV 4 x y = (n64 x, y) := rfl
theorem mapV5 (x y : Int) : mapV 5 x y = (n64 y, n64 x) := rfl
theorem mapV6 (x y : Int) : mapV 6 x y = (x, n64 y) := rfl
theorem mapV7 (x y : Int) : mapV 7 x y = (y, x) := rfl
theorem validT_cases {t : Int} (h : validT t = true) : t = 0 ∨ t = 1 ∨ t = 2 ∨ t = 3 ∨ t = 4 ∨ t = 5 ∨ t = 6 ∨ t = 7 := by
  simp [validT] at h
  omega
theorem mapV_none {t : Int} (h : validT t = false) (x y : Int) : mapV t x y = (x, y) := by
  unfold mapV
  have h1 : ∀ k : Int, 0 ≤ k → k < 8 → t ≠ k := by
    intro k h0 h8 e
    subst e
    simp [validT, h0, h8] at h
  rw [if_neg (h1 1 (by omega) (by omega)), if_neg (h1 2 (by omega) (by omega)), if_neg (h1 3 (by omega) (by omega)), if_neg (h1 4 (by omega) (by omega)), if_neg (h1 5 (by omega) (by omega)), if_neg (h1 6 (by omega) (by omega)), if_neg (h1 7 (by omega) (by omega))]
theorem mapV_i64 (t : Int) {x y : Int} (hx : I64 x) (hy : I64 y) : I64 (mapV t x y).1 ∧ I64 (mapV t x y).2 := by
  unfold mapV
  repeat' split
  all_goals exact ⟨by first | assumption | exact n64_i64 _, by first | assumption | exact n64_i64 _⟩
def mirT (t : Int) : Bool := validT t && decide (4 ≤ t)
def oddT (t : Int) : Bool := validT t && (t.tmod 2 == 1)
def grainT (t g : Int) : Int := if validT t && (g == 1 || g == 2) then (if oddT t then 3 - g else g) else 0
/-- the product: first t, then u -/
def thenT (t u : Int) : Int :=
  if validT t && validT u then
    (if decide (4 ≤ u) then u + 8 - t else u + t).tmod 4 + (if decide (4 ≤ t) = decide (4 ≤ u) then 0 else 4)
  else 0
def invT (t : Int) : Int := if validT t then (if 4 ≤ t then t else (4 - t).tmod 4) else 0
theorem valid_lit : ∀ k : Int, k = 0 ∨ k = 1 ∨ k = 2 ∨ k = 3 ∨ k = 4 ∨ k = 5 ∨ k = 6 ∨ k = 7 → validT k = true := by
  rintro k (rfl | rfl | rfl | rfl | rfl | rfl | rfl | rfl) <;> rfl
theorem thenT_valid (t u : Int) : validT (thenT t u) = true := by
  unfold thenT
  split
  · rename_i h
    simp only [Bool.and_eq_true] at h
    rcases validT_cases h.1 with rfl | rfl | rfl | rfl | rfl | rfl | rfl | rfl <;> rcases validT_cases h.2 with rfl | rfl | rfl | rfl | rfl | rfl | rfl | rfl <;> rfl
  · rfl
theorem invT_valid (t : Int) : validT (invT t) = true := by
  unfold invT
  split
  · rename_i h
    rcases validT_cases h with rfl | rfl | rfl | rfl | rfl | rfl | rfl | rfl <;> rfl
  · rfl
/-- the map of the product -/
theorem mapV_then {t u x y : Int} (ht : validT t = true) (hu : validT u = true) (hx : I64 x) (hy : I64 y) : mapV (thenT t u) x y = mapV u (mapV t x y).1 (mapV t x y).2 := by
  have e1 := n64_n64 hx
  have e2 := n64_n64 hy
  rcases validT_cases ht with rfl | rfl | rfl | rfl | rfl | rfl | rfl | rfl <;> rcases validT_cases hu with rfl | rfl | rfl | rfl | rfl | rfl | rfl | rfl <;>
    (simp only [thenT, mapV]; simp [validT, e1, e2])
theorem thenT_assoc {t u s : Int} (ht : validT t = true) (hu : validT u = true) (hs : validT s = true) : thenT (thenT t u) s = thenT t (thenT u s) := by
  rcases validT_cases ht with rfl | rfl | rfl | rfl | rfl | rfl | rfl | rfl <;> rcases validT_cases hu with rfl | rfl | rfl | rfl | rfl | rfl | rfl | rfl <;> rcases validT_cases hs with rfl | rfl | rfl | rfl | rfl | rfl | rfl | rfl <;> rfl
theorem thenT_zero {t : Int} (ht : validT t = true) : thenT t 0 = t ∧ thenT 0 t = t := by
  rcases validT_cases ht with rfl | rfl | rfl | rfl | rfl | rfl | rfl | rfl <;> exact ⟨rfl, rfl⟩
theorem thenT_inv {t : Int} (ht : validT t = true) : thenT t (invT t) = 0 ∧ thenT (invT t) t = 0 := by
  rcases validT_cases ht with rfl | rfl | rfl | rfl | rfl | rfl | rfl | rfl <;> exact ⟨rfl, rfl⟩
theorem grainT_then {t u g : Int} (ht : validT t = true) (hu : validT u = true) (hg : g = 0 ∨ g = 1 ∨ g = 2) : grainT (thenT t u) g = grainT u (grainT t g) := by
  rcases validT_cases ht with rfl | rfl | rfl | rfl | rfl | rfl | rfl | rfl <;> rcases validT_cases hu with rfl | rfl | rfl | rfl | rfl | rfl | rfl | rfl <;> rcases hg with rfl | rfl | rfl <;> rfl
/-- different symmetries map (2, 1) to different vectors -/
theorem mapV_apart {t u : Int} (ht : validT t = true) (hu : validT u = true) : (mapV t 2 1 = mapV u 2 1) ↔ t = u := by
  rcases validT_cases ht with rfl | rfl | rfl | rfl | rfl | rfl | rfl | rfl <;> rcases validT_cases hu with rfl | rfl | rfl | rfl | rfl | rfl | rfl | rfl <;> decide +kernel
/-- the first symmetry that maps the two unit vectors as the product does -/
def likeT (t u s : Int) : Bool := (mapV s 1 0 == mapV u (mapV t 1 0).1 (mapV t 1 0).2) && (mapV s 0 1 == mapV u (mapV t 0 1).1 (mapV t 0 1).2)
theorem likeT_iff {t u s : Int} (ht : validT t = true) (hu : validT u = true) (hs : validT s = true) : likeT t u s = true ↔ s = thenT t u := by
  rcases validT_cases ht with rfl | rfl | rfl | rfl | rfl | rfl | rfl | rfl <;> rcases validT_cases hu with rfl | rfl | rfl | rfl | rfl | rfl | rfl | rfl <;> rcases validT_cases hs with rfl | rfl | rfl | rfl | rfl | rfl | rfl | rfl <;> decide +kernel
theorem invT_iff {t u : Int} (ht : validT t = true) (hu : validT u = true) : thenT t u = 0 ↔ u = invT t := by
  rcases validT_cases ht with rfl | rfl | rfl | rfl | rfl | rfl | rfl | rfl <;> rcases validT_cases hu with rfl | rfl | rfl | rfl | rfl | rfl | rfl | rfl <;> decide +kernel
end Go.Proofs.YtahamffngmdjfaaDoor.G
