/-
  An argument that is a list of ratios. No condition.
-/
import Derived.Test.YthefkomalakfeaaQArg
namespace Go.Proofs.Ythefkomalakfeaa.W
open Go.ChangeShapes Go.WideShapes Go.ChangeAt Go.RowKit Go.Joins Go.Deep Go.Proofs.Ythefkomalakfeaa.Q

section
variable {H : Type} {enc : TypeId × Value → H} {W : World} {base : Nat} {v : Value} {d : DataW H} {p : List MemPlace}
theorem trod_rat {n : Nat} {cs : List Value} {y : DataW H × List MemPlace} (h : DataW.trod enc Try.prog W 0 (fun _ => true) true n 23 cs = some y) : ∃ x : Int × Int, cs = rtC x ∧ I64 x.1 ∧ I64 x.2 := by
  obtain ⟨y0, y1, m, _, hl, h0, h1⟩ := trod_struct2 Try.underlying23 h
  rw [cellsOfRat] at hl
  match cs, hl with
  | [a, b], _ =>
    have h0 : DataW.trod enc Try.prog W 0 (fun _ => true) true m 3 [a] = some y0 := h0
    have h1 : DataW.trod enc Try.prog W 0 (fun _ => true) true m 3 [b] = some y1 := h1
    obtain ⟨x0, e0, _, w0⟩ := DataW.trod_int Try.underlying3 h0
    obtain ⟨x1, e1, _, w1⟩ := DataW.trod_int Try.underlying3 h1
    simp at e0 e1
    subst e0 e1
    exact ⟨(x0, x1), rfl, i64_of w0, i64_of w1⟩
theorem open_rats (hv : Value.okWide Try.prog W .any base 37 v) (h : DataW.Trod enc Try.prog W 0 (fun _ => true) true 37 v d p) :
    ∃ l : List (Int × Int), SrcR W v l ∧ Ints l := by
  obtain ⟨l, h1, h2, _⟩ := openRows (P := fun x => I64 x.1 ∧ I64 x.2) Try.underlying37 cellsOfRat (by omega) (f := rtC) (fun _ => rfl) (fun n cs y h => trod_rat h) hv h
  exact ⟨l, h1, h2⟩
end
end Go.Proofs.Ythefkomalakfeaa.W
