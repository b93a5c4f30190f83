/-
  The arguments of the statements on tokens: lists of bytes, lists of tokens. No condition.
-/
import Derived.Test.YtggdblmjnbnddaaDoorHArg
import Derived.Test.YtggdblmjnbnddaaDoorLWr
namespace Go.Proofs.YtggdblmjnbnddaaDoor.W
open Go.ChangeShapes Go.WideShapes Go.ChangeAt Go.RowKit Go.Proofs.YtggdblmjnbnddaaDoor.Pl

section
variable {H : Type} {enc : TypeId × Value → H} {W : World} {base : Nat} {v : Value} {d : DataW H} {p : List MemPlace}
theorem cellsOfU8 : Tryd.prog.cellsOf 5 = 1 := by kernel_rfl
theorem cellsOfInt : Tryd.prog.cellsOf 3 = 1 := by kernel_rfl
theorem cellsOfStr : Tryd.prog.cellsOf 9 = 1 := by kernel_rfl
theorem cellsOfRk : Tryd.prog.cellsOf 34 = 4 := by kernel_rfl

def cvB (x : Int) : List Value := [.int .u8 x]
theorem cvB_len (x : Int) : (cvB x).length = 1 := rfl
theorem byte_read (n : Nat) (cs : List Value) (y : DataW H × List MemPlace) (h : DataW.trod enc Tryd.prog W 0 (fun _ => true) true n 5 cs = some y) : ∃ x : Int, cs = cvB x ∧ (0 ≤ x ∧ x < 256) := by
  obtain ⟨k, ek, _, hw⟩ := DataW.trod_int Tryd.underlying5 h
  exact ⟨k, ek, u8_of hw⟩
set_option maxRecDepth 100000 in
theorem open_bytes (hv : Value.okWide Tryd.prog W .any base 41 v) (h : DataW.Trod enc Tryd.prog W 0 (fun _ => true) true 41 v d p) :
    ∃ l : List Int, Src W 1 v l.length (flat cvB l) ∧ (∀ x ∈ l, 0 ≤ x ∧ x < 256) ∧ (l = [] ∨ ∃ es sp, d = .slice es sp ∧ es.length = l.length) :=
  openRows Tryd.underlying41 cellsOfU8 (by omega) cvB_len byte_read hv h

instance : Inhabited Tk := ⟨.zero⟩
set_option maxRecDepth 100000 in
theorem tok_read (n : Nat) (cs : List Value) (y : DataW H × List MemPlace) (h : DataW.trod enc Tryd.prog W 0 (fun _ => true) true n 34 cs = some y) : ∃ x : Tk, cs = tkC x ∧ Fit x := by
  obtain ⟨xs, m, _, _, hl, hlen, hf⟩ := DataW.trod_struct Tryd.underlying34 h
  rw [cellsOfRk] at hl
  match cs, hl with
  | [a, b, c, d], _ =>
    match xs, hlen with
    | [y0, y1, y2, y3], _ =>
      have h0 := hf 0 _ rfl
      have h1 := hf 1 _ rfl
      have h2 := hf 2 _ rfl
      have h3 := hf 3 _ rfl
      simp [cellsOfInt, cellsOfStr] at h0 h1 h2 h3
      obtain ⟨k, ek, _, _⟩ := DataW.trod_int Tryd.underlying3 h0
      obtain ⟨s, es, _, _⟩ := DataW.trod_string Tryd.underlying9 h1
      obtain ⟨q, eq, _, hw⟩ := DataW.trod_int Tryd.underlying3 h2
      obtain ⟨t, et, _, _⟩ := DataW.trod_int Tryd.underlying3 h3
      simp at ek es eq et
      subst ek es eq et
      exact ⟨⟨k, s.data.toList, q, t⟩, by unfold tkC; rw [tx_of], i64_of hw⟩
set_option maxRecDepth 100000 in
theorem open_toks (hv : Value.okWide Tryd.prog W .any base 27 v) (h : DataW.Trod enc Tryd.prog W 0 (fun _ => true) true 27 v d p) :
    ∃ l : List Tk, SrcT W v l ∧ (∀ x ∈ l, Fit x) ∧ (l = [] ∨ ∃ es sp, d = .slice es sp ∧ es.length = l.length) :=
  openRows Tryd.underlying27 cellsOfRk (by omega) tkC_len tok_read hv h
end
end Go.Proofs.YtggdblmjnbnddaaDoor.W
