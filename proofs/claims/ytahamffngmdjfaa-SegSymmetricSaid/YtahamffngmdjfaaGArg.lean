/-
  The arguments of the statements on segments: a segment, a rational point. No condition.
-/
import Derived.Test.YtahamffngmdjfaaVArg
import Derived.Deep.Strs
namespace Go.Proofs.Ytahamffngmdjfaa.W
open Go.ChangeShapes Go.WideShapes Go.ChangeAt Go.RowKit Go.Joins Go.Deep Go.Proofs.Ytahamffngmdjfaa.V

set_option maxRecDepth 100000
section
variable {H : Type} {enc : TypeId × Value → H} {W : World} {base : Nat} {v : Value} {d : DataW H} {p : List MemPlace}
theorem open_seg (hv : Value.okWide Try.prog W .any base 48 v) (h : DataW.Trod enc Try.prog W 0 (fun _ => true) true 48 v d p) :
    ∃ a b c d : Int, v = .agg #[.int .i64 a, .int .i64 b, .int .i64 c, .int .i64 d] := by
  obtain ⟨cs, rfl, hs⟩ := okWide_struct Try.underlying48 hv
  obtain ⟨fuel, hf⟩ := h
  obtain ⟨y0, y1, m, _, hl, h0, h1⟩ := trod_struct2 Try.underlying48 hf
  obtain ⟨l⟩ := cs
  have hl : l.length = 4 := hl.trans (show Try.prog.cellsOf 48 = 4 by kernel_rfl)
  match l, hl with
  | [a, b, c, e], _ =>
    have h0 : DataW.trod enc Try.prog W 0 (fun _ => true) true m 23 [a, b] = some y0 := h0
    have h1 : DataW.trod enc Try.prog W 0 (fun _ => true) true m 23 [c, e] = some y1 := h1
    obtain ⟨x0, e0⟩ := trod_vec h0
    obtain ⟨x1, e1⟩ := trod_vec h1
    simp at e0 e1
    obtain ⟨rfl, rfl⟩ := e0
    obtain ⟨rfl, rfl⟩ := e1
    exact ⟨_, _, _, _, rfl⟩
theorem open_pt (hv : Value.okWide Try.prog W .any base 50 v) (h : DataW.Trod enc Try.prog W 0 (fun _ => true) true 50 v d p) :
    ∃ a b c : Int, v = .agg #[.int .i64 a, .int .i64 b, .int .i64 c] := by
  obtain ⟨cs, rfl, hs⟩ := okWide_struct Try.underlying50 hv
  obtain ⟨fuel, hf⟩ := h
  obtain ⟨y0, y1, y2, m, _, hl, h0, h1, h2⟩ := trod_struct3 Try.underlying50 hf
  obtain ⟨l⟩ := cs
  have hl : l.length = 3 := hl.trans (show Try.prog.cellsOf 50 = 3 by kernel_rfl)
  match l, hl with
  | [a, b, c], _ =>
    have h0 : DataW.trod enc Try.prog W 0 (fun _ => true) true m 3 [a] = some y0 := h0
    have h1 : DataW.trod enc Try.prog W 0 (fun _ => true) true m 3 [b] = some y1 := h1
    have h2 : DataW.trod enc Try.prog W 0 (fun _ => true) true m 3 [c] = some y2 := h2
    obtain ⟨x0, e0, _, _⟩ := DataW.trod_int Try.underlying3 h0
    obtain ⟨x1, e1, _, _⟩ := DataW.trod_int Try.underlying3 h1
    obtain ⟨x2, e2, _, _⟩ := DataW.trod_int Try.underlying3 h2
    simp at e0 e1 e2
    subst e0 e1 e2
    exact ⟨_, _, _, rfl⟩
end
end Go.Proofs.Ytahamffngmdjfaa.W
