/-
  The reference's common: the ends that lie on both segments, in ascending order. Condition: the segments are valid.
-/
import Derived.Test.YthifljljaejfmaaJ20
import Derived.Test.YthifljljaejfmaaJ28
import Derived.Test.YthifljljaejfmaaJ29
namespace Go.Proofs.Ythifljljaejfmaa.W
open Go.RowKit Go.Proofs.Ythifljljaejfmaa.V Go.Proofs.Ythifljljaejfmaa.G

theorem end_lm {ax ay bx bz cx cy dx dy : Int} (h1 : validS ax ay bx bz = true) (h2 : validS cx cy dx dy = true) {z : Int × Int} (hz : z ∈ endsL ax ay bx bz cx cy dx dy) : Lm z.1 z.2 := by
  obtain ⟨ha, hb⟩ := valid_lm h1
  obtain ⟨hc, hd⟩ := valid_lm h2
  have : z = (ax, ay) ∨ z = (bx, bz) ∨ z = (cx, cy) ∨ z = (dx, dy) := by simpa [endsL] using hz
  rcases this with rfl | rfl | rfl | rfl <;> assumption
theorem on_con {ax ay bx bz px py : Int} (h : validS ax ay bx bz = true) (hp : Lm px py) : onS ax ay bx bz px py = conS ax ay bx bz px py := by
  unfold onS
  rw [h, within_lm.2 hp]
  rfl
end Go.Proofs.Ythifljljaejfmaa.W
