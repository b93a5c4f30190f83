/-
  The arguments of the statements on ratios: a ratio by value, two ints, a list of ratios. No condition.
-/
import Derived.Test.YthefkomalakfeaaHArg
import Derived.Test.YthefkomalakfeaaQAw
namespace Go.Proofs.Ythefkomalakfeaa.W
open Go.ChangeShapes Go.WideShapes Go.ChangeAt Go.RowKit Go.Joins Go.Deep Go.Proofs.Ythefkomalakfeaa.Q

section
variable {H : Type} {enc : TypeId × Value → H} {W : World} {base : Nat} {v : Value} {d : DataW H} {p : List MemPlace}
theorem cellsOfInt : Try.prog.cellsOf 3 = 1 := by kernel_rfl
theorem cellsOfRat : Try.prog.cellsOf 23 = 2 := by kernel_rfl

theorem open_rat (hv : Value.okWide Try.prog W .any base 23 v) (h : DataW.Trod enc Try.prog W 0 (fun _ => true) true 23 v d p) :
    ∃ n d : Int, v = raV n d ∧ I64 n ∧ I64 d := by
  obtain ⟨c0, c1, y0, y1, n, rfl, _, _, h0, h1⟩ := open_agg2 Try.underlying23 (by kernel_rfl) cellsOfRat hv h
  obtain ⟨x0, e0, _, w0⟩ := DataW.trod_int Try.underlying3 h0
  obtain ⟨x1, e1, _, w1⟩ := DataW.trod_int Try.underlying3 h1
  simp at e0 e1
  subst e0 e1
  exact ⟨x0, x1, rfl, i64_of w0, i64_of w1⟩
end
end Go.Proofs.Ythefkomalakfeaa.W
