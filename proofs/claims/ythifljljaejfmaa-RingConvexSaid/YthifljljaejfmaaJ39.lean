/-
  ring: the reference's WherePoint and Where: they return what the program's do. Condition: the list is not longer than 2^40.
-/
import Derived.Test.YthifljljaejfmaaJ24
import Derived.Test.YthifljljaejfmaaJ32
import Derived.Test.YthifljljaejfmaaJ38
namespace Go.Proofs.Ythifljljaejfmaa.W
open Go.RowKit Go.Proofs.Ythifljljaejfmaa.V Go.Proofs.Ythifljljaejfmaa.G


theorem rel2_drew {x1 y1 x2 y2 : Int} {w0 w : World} {p q : Value} (h : Rel2 x1 y1 x2 y2 w0 p q w) : Rel2 x1 y1 x2 y2 w0 p q w.drew := by
  obtain ⟨a, b, h1, h2, h3, h4, h5⟩ := h
  exact ⟨a, b, h1, h2, h3.drew, h4.drew, h5.drew⟩
theorem count_step (L : List Ed) (k q : Nat) (e : Ed) (x y d : Int) (h : L.take (k + 1) = L.take k ++ [e]) (hq : q = countP (L.take k) x y d % 2) : (if crossesP e x y d then 1 - q else q) = countP (L.take (k + 1)) x y d % 2 := by
  have := countP_snoc (L.take k) e x y d
  rw [h]
  cases hc : crossesP e x y d <;> rw [hc] at this <;> simp at this ⊢ <;> omega

end Go.Proofs.Ythifljljaejfmaa.W
