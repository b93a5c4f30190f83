/-
  The arguments of the statements on heaps: lists of elements, of bytes, of 16-bit numbers, of calls. No condition.
-/
import Derived.Test.YtogfcenebbipeaaHArg
import Derived.Test.YtogfcenebbipeaaHRef2
namespace Go.Proofs.Ytogfcenebbipeaa.W
open Go.ChangeShapes Go.WideShapes Go.ChangeAt Go.RowKit Go.Proofs.Ytogfcenebbipeaa.Pl

section
variable {H : Type} {enc : TypeId × Value → H} {W : World} {base : Nat} {v : Value} {d : DataW H} {p : List MemPlace}
theorem cellsOfItem : Try.prog.cellsOf 27 = 2 := by kernel_rfl
theorem cellsOfInt : Try.prog.cellsOf 3 = 1 := by kernel_rfl
theorem bytesOfItem : Try.prog.bytesOf 27 = 16 := by kernel_rfl
theorem cellsOfU8 : Try.prog.cellsOf 5 = 1 := by kernel_rfl
theorem bytesOfU8 : Try.prog.bytesOf 5 = 1 := by kernel_rfl
theorem cellsOfU16 : Try.prog.cellsOf 56 = 1 := by kernel_rfl
theorem bytesOfU16 : Try.prog.bytesOf 56 = 2 := by kernel_rfl
theorem cellsOfOp : Try.prog.cellsOf 31 = 3 := by kernel_rfl
theorem bytesOfOp : Try.prog.bytesOf 31 = 24 := by kernel_rfl

theorem item_read (n : Nat) (cs : List Value) (y : DataW H × List MemPlace) (h : DataW.trod enc Try.prog W 0 (fun _ => true) true n 27 cs = some y) : ∃ x : Int × Int, cs = cvI x ∧ True := by
  obtain ⟨xs, m, _, _, hl, hlen, hf⟩ := DataW.trod_struct Try.underlying27 h
  rw [cellsOfItem] at hl
  match cs, hl with
  | [a, b], _ =>
    match xs, hlen with
    | [y0, y1], _ =>
      have h0 := hf 0 _ rfl
      have h1 := hf 1 _ rfl
      simp [cellsOfInt] at h0 h1
      obtain ⟨k, ek, _, _⟩ := DataW.trod_int Try.underlying3 h0
      obtain ⟨t, et, _, _⟩ := DataW.trod_int Try.underlying3 h1
      simp at ek et
      subst ek et
      exact ⟨(k, t), rfl, trivial⟩
theorem open_items (hv : Value.okWide Try.prog W .any base 29 v) (h : DataW.Trod enc Try.prog W 0 (fun _ => true) true 29 v d p) :
    ∃ l : List (Int × Int), SrcI W v l ∧ (∀ x ∈ l, True) ∧ (l = [] ∨ ∃ es sp, d = .slice es sp ∧ es.length = l.length) :=
  openRows Try.underlying29 cellsOfItem (by omega) cvI_len item_read hv h

def cvB (x : Int) : List Value := [.int .u8 x]
theorem cvB_len (x : Int) : (cvB x).length = 1 := rfl
theorem byte_read (n : Nat) (cs : List Value) (y : DataW H × List MemPlace) (h : DataW.trod enc Try.prog W 0 (fun _ => true) true n 5 cs = some y) : ∃ x : Int, cs = cvB x ∧ (0 ≤ x ∧ x < 256) := by
  obtain ⟨k, ek, _, hw⟩ := DataW.trod_int Try.underlying5 h
  exact ⟨k, ek, u8_of hw⟩
theorem open_bytes (hv : Value.okWide Try.prog W .any base 45 v) (h : DataW.Trod enc Try.prog W 0 (fun _ => true) true 45 v d p) :
    ∃ l : List Int, Src W 1 v l.length (flat cvB l) ∧ (∀ x ∈ l, 0 ≤ x ∧ x < 256) ∧ (l = [] ∨ ∃ es sp, d = .slice es sp ∧ es.length = l.length) :=
  openRows Try.underlying45 cellsOfU8 (by omega) cvB_len byte_read hv h

def cvS (x : Int) : List Value := [.int .u16 x]
theorem cvS_len (x : Int) : (cvS x).length = 1 := rfl
theorem short_read (n : Nat) (cs : List Value) (y : DataW H × List MemPlace) (h : DataW.trod enc Try.prog W 0 (fun _ => true) true n 56 cs = some y) : ∃ x : Int, cs = cvS x ∧ (0 ≤ x ∧ x < 65536) := by
  obtain ⟨k, ek, _, hw⟩ := DataW.trod_int Try.underlying56 h
  exact ⟨k, ek, u16_of hw⟩
theorem open_shorts (hv : Value.okWide Try.prog W .any base 53 v) (h : DataW.Trod enc Try.prog W 0 (fun _ => true) true 53 v d p) :
    ∃ l : List Int, Src W 1 v l.length (flat cvS l) ∧ (∀ x ∈ l, 0 ≤ x ∧ x < 65536) ∧ (l = [] ∨ ∃ es sp, d = .slice es sp ∧ es.length = l.length) :=
  openRows Try.underlying53 cellsOfU16 (by omega) cvS_len short_read hv h

/-- a call: its kind, its element -/
abbrev OpV := Int × (Int × Int)
def cvO (x : OpV) : List Value := [.int .u8 x.1, .int .i64 x.2.1, .int .i64 x.2.2]
theorem cvO_len (x : OpV) : (cvO x).length = 3 := rfl
theorem op_read (n : Nat) (cs : List Value) (y : DataW H × List MemPlace) (h : DataW.trod enc Try.prog W 0 (fun _ => true) true n 31 cs = some y) : ∃ x : OpV, cs = cvO x ∧ (0 ≤ x.1 ∧ x.1 < 256) := by
  obtain ⟨xs, m, _, _, hl, hlen, hf⟩ := DataW.trod_struct Try.underlying31 h
  rw [cellsOfOp] at hl
  match cs, hl with
  | [a, b, c], _ =>
    match xs, hlen with
    | [y0, y1], _ =>
      have h0 := hf 0 _ rfl
      have h1 := hf 1 _ rfl
      simp [cellsOfU8, cellsOfItem] at h0 h1
      obtain ⟨k, ek, _, hw⟩ := DataW.trod_int Try.underlying5 h0
      obtain ⟨⟨kk, tt⟩, et, _⟩ := item_read _ _ _ h1
      simp [cvI] at ek et
      obtain ⟨rfl, rfl⟩ := et
      subst ek
      exact ⟨(k, (kk, tt)), rfl, u8_of hw⟩
theorem open_ops (hv : Value.okWide Try.prog W .any base 22 v) (h : DataW.Trod enc Try.prog W 0 (fun _ => true) true 22 v d p) :
    ∃ l : List OpV, Src W 3 v l.length (flat cvO l) ∧ (∀ x ∈ l, 0 ≤ x.1 ∧ x.1 < 256) ∧ (l = [] ∨ ∃ es sp, d = .slice es sp ∧ es.length = l.length) :=
  openRows Try.underlying22 cellsOfOp (by omega) cvO_len op_read hv h
end
end Go.Proofs.Ytogfcenebbipeaa.W
