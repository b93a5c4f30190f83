/-
  An argument that is a vector by value, and that its coordinates are ints. No condition.
-/
import Derived.Test.YtahamffngmdjfaaDoorVArg
namespace Go.Proofs.YtahamffngmdjfaaDoor.W
open Go.ChangeShapes Go.WideShapes Go.ChangeAt Go.RowKit Go.Joins Go.Deep Go.Proofs.YtahamffngmdjfaaDoor.V

set_option maxRecDepth 100000
section
variable {H : Type} {enc : TypeId × Value → H} {W : World} {base : Nat} {v : Value} {d : DataW H} {p : List MemPlace}
theorem trod_vec64 {n : Nat} {cs : List Value} {y : DataW H × List MemPlace} (h : DataW.trod enc Tryd.prog W 0 (fun _ => true) true n 23 cs = some y) : ∃ x : Int × Int, cs = vC x ∧ I64 x.1 ∧ I64 x.2 := by
  obtain ⟨y0, y1, m, _, hl, h0, h1⟩ := trod_struct2 Tryd.underlying23 h
  rw [cellsOfVec] at hl
  match cs, hl with
  | [a, b], _ =>
    have h0 : DataW.trod enc Tryd.prog W 0 (fun _ => true) true m 3 [a] = some y0 := h0
    have h1 : DataW.trod enc Tryd.prog W 0 (fun _ => true) true m 3 [b] = some y1 := h1
    obtain ⟨x0, e0, _, w0⟩ := DataW.trod_int Tryd.underlying3 h0
    obtain ⟨x1, e1, _, w1⟩ := DataW.trod_int Tryd.underlying3 h1
    simp at e0 e1
    subst e0 e1
    exact ⟨(x0, x1), rfl, i64_of w0, i64_of w1⟩
theorem open_vec64 (hv : Value.okWide Tryd.prog W .any base 23 v) (h : DataW.Trod enc Tryd.prog W 0 (fun _ => true) true 23 v d p) :
    ∃ n d : Int, v = vV n d ∧ I64 n ∧ I64 d := by
  obtain ⟨cs, rfl, hs⟩ := okWide_struct Tryd.underlying23 hv
  obtain ⟨fuel, hf⟩ := h
  obtain ⟨x, hx, h1, h2⟩ := trod_vec64 hf
  obtain ⟨l⟩ := cs
  exact ⟨x.1, x.2, by simp [Value.cells] at hx; rw [hx], h1, h2⟩
theorem open_vecs64 (hv : Value.okWide Tryd.prog W .any base 34 v) (h : DataW.Trod enc Tryd.prog W 0 (fun _ => true) true 34 v d p) :
    ∃ l : List (Int × Int), SrcV W v l ∧ (∀ x ∈ l, I64 x.1 ∧ I64 x.2) ∧ (l = [] ∨ ∃ es sp, d = .slice es sp ∧ es.length = l.length) :=
  openRows (P := fun x => I64 x.1 ∧ I64 x.2) Tryd.underlying34 cellsOfVec (by omega) (f := vC) (fun _ => rfl) (fun n cs y h => trod_vec64 h) hv h
theorem bytesOfVec : Tryd.prog.bytesOf 23 = 16 := by kernel_rfl
end
end Go.Proofs.YtahamffngmdjfaaDoor.W
