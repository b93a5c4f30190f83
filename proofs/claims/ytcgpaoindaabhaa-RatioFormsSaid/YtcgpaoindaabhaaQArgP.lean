/-
  An argument that is an array of two ints by value. No condition.
-/
import Derived.Test.YtcgpaoindaabhaaQArg
import Derived.ChangeMaps5
namespace Go.Proofs.Ytcgpaoindaabhaa.W
open Go.ChangeShapes Go.WideShapes Go.ChangeAt Go.RowKit Go.Joins Go.Deep Go.Proofs.Ytcgpaoindaabhaa.Q

section
variable {H : Type} {enc : TypeId × Value → H} {W : World} {base : Nat}
theorem okWide_arr {P : Program} {r : Reach} {n : Nat} {e t : TypeId} {v : Value} (ht : P.underlying t = some (.array n e)) (h : Value.okWide P W r base t v) : ∃ cs, v = .agg cs ∧ cs.size = P.cellsOf t := by
  simp only [Value.okWide, ht] at h
  obtain ⟨cs, h1, h2, _⟩ := h
  exact ⟨cs, h1, h2⟩
theorem open_pair {P : Program} {r : Reach} {e t : TypeId} {v : Value} {d : DataW H} {p : List MemPlace} {k : Nat} (ht : P.underlying t = some (.array 2 e)) (hk : P.cellsOf e = k) (hv : Value.okWide P W r base t v) (h : DataW.Trod enc P W 0 (fun _ => true) true t v d p) :
    ∃ (cs : Array Value) (y0 y1 : DataW H × List MemPlace) (m : Nat), v = .agg cs ∧ cs.size = P.cellsOf t ∧ DataW.trod enc P W 0 (fun _ => true) true m e (cs.toList.take k) = some y0 ∧ DataW.trod enc P W 0 (fun _ => true) true m e ((cs.toList.drop k).take k) = some y1 := by
  obtain ⟨cs, rfl, hs⟩ := okWide_arr ht hv
  obtain ⟨fuel, hf⟩ := h
  obtain ⟨xs, m, _, _, _, hl, hi⟩ := DataW.trod_array ht hf
  match xs, hl with
  | [y0, y1], _ =>
    have h0 := hi 0 (by omega)
    have h1 := hi 1 (by omega)
    rw [hk] at h0 h1
    exact ⟨cs, y0, y1, m, rfl, hs, by simpa [Value.cells] using h0, by simpa [Value.cells] using h1⟩
theorem two_cells {cs : Array Value} (h : cs.size = 2) : ∃ a b, cs = #[a, b] := by
  obtain ⟨l⟩ := cs
  match l, h with
  | [a, b], _ => exact ⟨a, b, rfl⟩
theorem open_two {v : Value} {d : DataW H} {p : List MemPlace} (hv : Value.okWide Try.prog W .any base 29 v) (h : DataW.Trod enc Try.prog W 0 (fun _ => true) true 29 v d p) :
    ∃ n m : Int, v = .agg #[.int .i64 n, .int .i64 m] ∧ I64 n ∧ I64 m := by
  obtain ⟨cs, a0, a1, m, rfl, z0, h0, h1⟩ := open_pair Try.underlying29 cellsOfInt hv h
  obtain ⟨c0, c1, rfl⟩ := two_cells (z0.trans (show Try.prog.cellsOf 29 = 2 by kernel_rfl))
  obtain ⟨x0, e0, _, w0⟩ := DataW.trod_int Try.underlying3 h0
  obtain ⟨x1, e1, _, w1⟩ := DataW.trod_int Try.underlying3 h1
  simp at e0 e1
  subst e0 e1
  exact ⟨x0, x1, rfl, i64_of w0, i64_of w1⟩
end
end Go.Proofs.Ytcgpaoindaabhaa.W
