/-
  Arguments that are a box by value whose numbers an int holds, and an array of three bytes by value. No condition.
-/
import Derived.Test.YtahamffngmdjfaaDoorOArg
namespace Go.Proofs.YtahamffngmdjfaaDoor.W
open Go.ChangeShapes Go.WideShapes Go.ChangeAt Go.RowKit Go.Joins Go.Deep Go.Proofs.YtahamffngmdjfaaDoor.V

set_option maxRecDepth 100000
section
variable {H : Type} {enc : TypeId × Value → H} {W : World} {base : Nat} {v : Value} {d : DataW H} {p : List MemPlace}
theorem open_box64 (hv : Value.okWide Tryd.prog W .any base 25 v) (h : DataW.Trod enc Tryd.prog W 0 (fun _ => true) true 25 v d p) :
    ∃ a b c d : Int, v = bV a b c d ∧ (I64 a ∧ I64 b) ∧ I64 c ∧ I64 d := by
  obtain ⟨cs, rfl, hs⟩ := okWide_struct Tryd.underlying25 hv
  obtain ⟨fuel, hf⟩ := h
  obtain ⟨y0, y1, m, _, hl, h0, h1⟩ := trod_struct2 Tryd.underlying25 hf
  obtain ⟨l⟩ := cs
  rw [cellsOfBox] at hl
  match l, hl with
  | [a, b, c, e], _ =>
    have h0 : DataW.trod enc Tryd.prog W 0 (fun _ => true) true m 23 [a, b] = some y0 := h0
    have h1 : DataW.trod enc Tryd.prog W 0 (fun _ => true) true m 23 [c, e] = some y1 := h1
    obtain ⟨x0, e0, i0⟩ := trod_vec64 h0
    obtain ⟨x1, e1, i1⟩ := trod_vec64 h1
    simp at e0 e1
    obtain ⟨rfl, rfl⟩ := e0
    obtain ⟨rfl, rfl⟩ := e1
    exact ⟨_, _, _, _, rfl, i0, i1⟩
theorem cellsOfU8 : Tryd.prog.cellsOf 5 = 1 := by kernel_rfl
theorem open_arr8 (hv : Value.okWide Tryd.prog W .any base 42 v) (h : DataW.Trod enc Tryd.prog W 0 (fun _ => true) true 42 v d p) :
    ∃ a b c : Int, v = .agg #[.int .u8 a, .int .u8 b, .int .u8 c] ∧ (0 ≤ a ∧ a < 256) ∧ (0 ≤ b ∧ b < 256) ∧ 0 ≤ c ∧ c < 256 := by
  obtain ⟨cs, rfl, hs⟩ := okWide_arr Tryd.underlying42 hv
  obtain ⟨fuel, hf⟩ := h
  obtain ⟨xs, m, _, _, _, hl, hi⟩ := DataW.trod_array Tryd.underlying42 hf
  obtain ⟨l⟩ := cs
  have hs : l.length = 3 := hs.trans (show Tryd.prog.cellsOf 42 = 3 by kernel_rfl)
  match l, hs with
  | [a0, a1, a2], _ =>
    have hg : ∀ i, i < 3 → ∃ y, DataW.trod enc Tryd.prog W 0 (fun _ => true) true m 5 (([a0, a1, a2].drop (i * 1)).take 1) = some y := fun i hi' => by
      have h := hi i hi'
      rw [cellsOfU8, List.getElem?_eq_getElem (by omega)] at h
      exact ⟨_, h⟩
    obtain ⟨_, g0⟩ := hg 0 (by omega)
    obtain ⟨_, g1⟩ := hg 1 (by omega)
    obtain ⟨_, g2⟩ := hg 2 (by omega)
    obtain ⟨x0, e0, _, w0⟩ := DataW.trod_int Tryd.underlying5 g0
    obtain ⟨x1, e1, _, w1⟩ := DataW.trod_int Tryd.underlying5 g1
    obtain ⟨x2, e2, _, w2⟩ := DataW.trod_int Tryd.underlying5 g2
    simp at e0 e1 e2
    subst e0 e1 e2
    exact ⟨x0, x1, x2, rfl, u8_of w0, u8_of w1, u8_of w2⟩
end
end Go.Proofs.YtahamffngmdjfaaDoor.W
