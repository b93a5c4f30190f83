/-
  The arguments of the statements on vectors: a vector, a box, an array of vectors by value, a list of vectors, an int. No condition.
  An argument that is a vector by value, and that its coordinates are ints. No condition.
  The arguments of the statements on arcs: an arc. No condition.
-/
import Derived.Test.YtlogihcmmoldkaaK38
import Derived.Test.YtlogihcmmoldkaaK08
import Derived.ChangeMaps5
import Derived.Test.YtlogihcmmoldkaaK05
import Derived.Lib.SmallJoins
namespace Go.Proofs.Ytlogihcmmoldkaa.W
open Go.ChangeShapes Go.WideShapes Go.ChangeAt Go.RowKit Go.Joins Go.Deep Go.Proofs.Ytlogihcmmoldkaa.V

set_option maxRecDepth 100000
section
variable {H : Type} {enc : TypeId × Value → H} {W : World} {base : Nat} {v : Value} {d : DataW H} {p : List MemPlace}
theorem cellsOfInt : Try.prog.cellsOf 3 = 1 := by kernel_rfl
theorem cellsOfVec : Try.prog.cellsOf 23 = 2 := by kernel_rfl
theorem trod_vec {n : Nat} {cs : List Value} {y : DataW H × List MemPlace} (h : DataW.trod enc Try.prog W 0 (fun _ => true) true n 23 cs = some y) : ∃ x : Int × Int, cs = vC x := by
  obtain ⟨y0, y1, m, _, hl, h0, h1⟩ := trod_struct2 Try.underlying23 h
  rw [cellsOfVec] at hl
  match cs, hl with
  | [a, b], _ =>
    have h0 : DataW.trod enc Try.prog W 0 (fun _ => true) true m 3 [a] = some y0 := h0
    have h1 : DataW.trod enc Try.prog W 0 (fun _ => true) true m 3 [b] = some y1 := h1
    obtain ⟨x0, e0, _, _⟩ := DataW.trod_int Try.underlying3 h0
    obtain ⟨x1, e1, _, _⟩ := DataW.trod_int Try.underlying3 h1
    simp at e0 e1
    subst e0 e1
    exact ⟨(x0, x1), rfl⟩
theorem okWide_struct {P : Program} {r : Reach} {fs : Array Field} {t : TypeId} {v : Value} (ht : P.underlying t = some (.struct fs)) (h : Value.okWide P W r base t v) : ∃ cs, v = .agg cs ∧ cs.size = P.cellsOf t := by
  simp only [Value.okWide, ht] at h
  obtain ⟨cs, h1, h2, _⟩ := h
  exact ⟨cs, h1, h2⟩
theorem okWide_arr {P : Program} {r : Reach} {n : Nat} {e t : TypeId} {v : Value} (ht : P.underlying t = some (.array n e)) (h : Value.okWide P W r base t v) : ∃ cs, v = .agg cs ∧ cs.size = P.cellsOf t := by
  simp only [Value.okWide, ht] at h
  obtain ⟨cs, h1, h2, _⟩ := h
  exact ⟨cs, h1, h2⟩
theorem open_vec (hv : Value.okWide Try.prog W .any base 23 v) (h : DataW.Trod enc Try.prog W 0 (fun _ => true) true 23 v d p) :
    ∃ n d : Int, v = vV n d := by
  obtain ⟨cs, rfl, hs⟩ := okWide_struct Try.underlying23 hv
  obtain ⟨fuel, hf⟩ := h
  obtain ⟨x, hx⟩ := trod_vec hf
  obtain ⟨l⟩ := cs
  exact ⟨x.1, x.2, by simp [Value.cells] at hx; rw [hx]⟩
theorem open_arr4 (hv : Value.okWide Try.prog W .any base 92 v) (h : DataW.Trod enc Try.prog W 0 (fun _ => true) true 92 v d p) :
    ∃ a b c d e f g h : Int, v = .agg #[.int .i64 a, .int .i64 b, .int .i64 c, .int .i64 d, .int .i64 e, .int .i64 f, .int .i64 g, .int .i64 h] := by
  obtain ⟨cs, rfl, hs⟩ := okWide_arr Try.underlying92 hv
  obtain ⟨fuel, hf⟩ := h
  obtain ⟨xs, m, _, _, _, hl, hi⟩ := DataW.trod_array Try.underlying92 hf
  obtain ⟨l⟩ := cs
  have hs : l.length = 8 := hs.trans (show Try.prog.cellsOf 92 = 8 by kernel_rfl)
  match l, hs with
  | [a0, a1, a2, a3, a4, a5, a6, a7], _ =>
    have hg : ∀ i, i < 4 → ∃ y, DataW.trod enc Try.prog W 0 (fun _ => true) true m 23 (([a0, a1, a2, a3, a4, a5, a6, a7].drop (i * 2)).take 2) = some y := fun i hi' => by
      have h := hi i hi'
      rw [cellsOfVec, List.getElem?_eq_getElem (by omega)] at h
      exact ⟨_, h⟩
    obtain ⟨_, g0⟩ := hg 0 (by omega)
    obtain ⟨_, g1⟩ := hg 1 (by omega)
    obtain ⟨_, g2⟩ := hg 2 (by omega)
    obtain ⟨_, g3⟩ := hg 3 (by omega)
    obtain ⟨x0, e0⟩ := trod_vec g0
    obtain ⟨x1, e1⟩ := trod_vec g1
    obtain ⟨x2, e2⟩ := trod_vec g2
    obtain ⟨x3, e3⟩ := trod_vec g3
    simp at e0 e1 e2 e3
    obtain ⟨rfl, rfl⟩ := e0
    obtain ⟨rfl, rfl⟩ := e1
    obtain ⟨rfl, rfl⟩ := e2
    obtain ⟨rfl, rfl⟩ := e3
    exact ⟨_, _, _, _, _, _, _, _, rfl⟩
theorem open_vecs (hv : Value.okWide Try.prog W .any base 27 v) (h : DataW.Trod enc Try.prog W 0 (fun _ => true) true 27 v d p) :
    ∃ l : List (Int × Int), SrcV W v l ∧ (l = [] ∨ ∃ es sp, d = .slice es sp ∧ es.length = l.length) := by
  obtain ⟨l, h1, _, h2⟩ := openRows (P := fun _ => True) Try.underlying27 cellsOfVec (by omega) (f := vC) (fun _ => rfl) (fun n cs y h => by
    obtain ⟨x, hx⟩ := trod_vec h
    exact ⟨x, hx, trivial⟩) hv h
  exact ⟨l, h1, h2⟩
end
end Go.Proofs.Ytlogihcmmoldkaa.W

namespace Go.Proofs.Ytlogihcmmoldkaa.W
open Go.ChangeShapes Go.WideShapes Go.ChangeAt Go.RowKit Go.Joins Go.Deep Go.Proofs.Ytlogihcmmoldkaa.V

set_option maxRecDepth 100000
section
variable {H : Type} {enc : TypeId × Value → H} {W : World} {base : Nat} {v : Value} {d : DataW H} {p : List MemPlace}
theorem trod_vec64 {n : Nat} {cs : List Value} {y : DataW H × List MemPlace} (h : DataW.trod enc Try.prog W 0 (fun _ => true) true n 23 cs = some y) : ∃ x : Int × Int, cs = vC x ∧ I64 x.1 ∧ I64 x.2 := by
  obtain ⟨y0, y1, m, _, hl, h0, h1⟩ := trod_struct2 Try.underlying23 h
  rw [cellsOfVec] at hl
  match cs, hl with
  | [a, b], _ =>
    have h0 : DataW.trod enc Try.prog W 0 (fun _ => true) true m 3 [a] = some y0 := h0
    have h1 : DataW.trod enc Try.prog W 0 (fun _ => true) true m 3 [b] = some y1 := h1
    obtain ⟨x0, e0, _, w0⟩ := DataW.trod_int Try.underlying3 h0
    obtain ⟨x1, e1, _, w1⟩ := DataW.trod_int Try.underlying3 h1
    simp at e0 e1
    subst e0 e1
    exact ⟨(x0, x1), rfl, i64_of w0, i64_of w1⟩
theorem open_vec64 (hv : Value.okWide Try.prog W .any base 23 v) (h : DataW.Trod enc Try.prog W 0 (fun _ => true) true 23 v d p) :
    ∃ n d : Int, v = vV n d ∧ I64 n ∧ I64 d := by
  obtain ⟨cs, rfl, hs⟩ := okWide_struct Try.underlying23 hv
  obtain ⟨fuel, hf⟩ := h
  obtain ⟨x, hx, h1, h2⟩ := trod_vec64 hf
  obtain ⟨l⟩ := cs
  exact ⟨x.1, x.2, by simp [Value.cells] at hx; rw [hx], h1, h2⟩
theorem open_vecs64 (hv : Value.okWide Try.prog W .any base 27 v) (h : DataW.Trod enc Try.prog W 0 (fun _ => true) true 27 v d p) :
    ∃ l : List (Int × Int), SrcV W v l ∧ (∀ x ∈ l, I64 x.1 ∧ I64 x.2) ∧ (l = [] ∨ ∃ es sp, d = .slice es sp ∧ es.length = l.length) :=
  openRows (P := fun x => I64 x.1 ∧ I64 x.2) Try.underlying27 cellsOfVec (by omega) (f := vC) (fun _ => rfl) (fun n cs y h => trod_vec64 h) hv h
theorem bytesOfVec : Try.prog.bytesOf 23 = 16 := by kernel_rfl
end
end Go.Proofs.Ytlogihcmmoldkaa.W

namespace Go.Proofs.Ytlogihcmmoldkaa.W
open Go.ChangeShapes Go.WideShapes Go.ChangeAt Go.RowKit Go.Joins Go.Deep Go.Proofs.Ytlogihcmmoldkaa.V

set_option maxRecDepth 100000
section
variable {H : Type} {enc : TypeId × Value → H} {W : World} {base : Nat} {v : Value} {d : DataW H} {p : List MemPlace}
theorem open_arc (hv : Value.okWide Try.prog W .any base 25 v) (h : DataW.Trod enc Try.prog W 0 (fun _ => true) true 25 v d p) :
    ∃ (fx fy tx ty cx cy : Int) (cw : Bool), v = arV fx fy tx ty cx cy cw := by
  obtain ⟨cs, rfl, hs⟩ := okWide_struct Try.underlying25 hv
  obtain ⟨fuel, hf⟩ := h
  obtain ⟨y0, y1, y2, y3, m, _, hl, h0, h1, h2, h3⟩ := trod_struct4 Try.underlying25 hf
  obtain ⟨l⟩ := cs
  have hl : l.length = 7 := hl.trans (show Try.prog.cellsOf 25 = 7 by kernel_rfl)
  match l, hl with
  | [a, b, c, e, f, g, k], _ =>
    have h0 : DataW.trod enc Try.prog W 0 (fun _ => true) true m 23 [a, b] = some y0 := h0
    have h1 : DataW.trod enc Try.prog W 0 (fun _ => true) true m 23 [c, e] = some y1 := h1
    have h2 : DataW.trod enc Try.prog W 0 (fun _ => true) true m 23 [f, g] = some y2 := h2
    have h3 : DataW.trod enc Try.prog W 0 (fun _ => true) true m 4 [k] = some y3 := h3
    obtain ⟨x0, e0⟩ := trod_vec h0
    obtain ⟨x1, e1⟩ := trod_vec h1
    obtain ⟨x2, e2⟩ := trod_vec h2
    obtain ⟨x3, e3, _⟩ := DataW.trod_bool Try.underlying4 h3
    simp at e0 e1 e2 e3
    obtain ⟨rfl, rfl⟩ := e0
    obtain ⟨rfl, rfl⟩ := e1
    obtain ⟨rfl, rfl⟩ := e2
    subst e3
    exact ⟨_, _, _, _, _, _, _, rfl⟩
end
end Go.Proofs.Ytlogihcmmoldkaa.W
