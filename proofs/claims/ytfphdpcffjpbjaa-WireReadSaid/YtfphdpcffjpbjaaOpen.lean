/-
  The arguments of a statement: a slice of integers, of texts, of bytes reads as a list. No condition.
-/
import Derived.Test.YtfphdpcffjpbjaaFrame
import Derived.Test.YtfphdpcffjpbjaaFew
import Derived.SliceStrings
namespace Go.Proofs.Ytfphdpcffjpbjaa.W
open Go.ChangeShapes Go.WideShapes Go.ChangeAt Go.RowKit Go.Proofs.Ytfphdpcffjpbjaa.Pl

theorem cells1 (t : Nat) (h : Try.prog.cellsOf t = 1) : Try.prog.cellsOf t = 1 := h
theorem cells_int : Try.prog.cellsOf 3 = 1 := by kernel_rfl
theorem cells_u8 : Try.prog.cellsOf 5 = 1 := by kernel_rfl
theorem cells_str : Try.prog.cellsOf 9 = 1 := by kernel_rfl
theorem bytes_int : Try.prog.bytesOf 3 = 8 := by kernel_rfl
theorem bytes_u8 : Try.prog.bytesOf 5 = 1 := by kernel_rfl
theorem bytes_str : Try.prog.bytesOf 9 = 16 := by kernel_rfl

theorem src_nil (W : World) (size : Nat) : Src W size (.slice none 0 0) 0 [] := ⟨(Nat.zero_mul size).symm, none, 0, rfl, fun hn => absurd hn (Nat.lt_irrefl 0)⟩
theorem src_of {W : World} {a : Addr} {len cap : Nat} {vs : List Value} (hl : vs.length = len) (hc : ∀ j u, vs[j]? = some u → W.cell? (a.add j) = some u) : Src W 1 (.slice (some a) len cap) len vs := by
  refine ⟨by omega, _, _, rfl, fun hn => ⟨a, rfl, ?_, hc⟩⟩
  cases vs with
  | nil => simp at hl; omega
  | cons x t =>
    have := World.block_lt_of_cell? W _ (hc 0 x rfl)
    rwa [block_add] at this

section
variable {H : Type} {enc : TypeId × Value → H} {W : World} {base : Nat} {v : Value} {d : DataW H} {p : List MemPlace}

set_option maxRecDepth 100000 in
theorem open_I (hv : Value.okWide Try.prog W .any base 37 v) (h : DataW.Trod enc Try.prog W 0 (fun _ => true) true 37 v d p) :
    ∃ l, SrcI W v l ∧ (∀ x ∈ l, I64 x) ∧ (l = [] ∨ ∃ es sp, d = .slice es sp ∧ es.length = l.length) := by
  obtain ⟨a0, len, cap, rfl⟩ := okWide_slice Try.underlying37 hv
  obtain ⟨fuel, hf⟩ := h
  rcases open_ints Try.underlying37 Try.underlying3 cells_int hf with ⟨hcs, hx⟩ | ⟨a, len', cap', zs, hcs, _, hl, hm, hz, hx, hcell, hwz⟩
  · simp [Value.cells] at hcs
    obtain ⟨rfl, rfl, rfl⟩ := hcs
    exact ⟨[], src_nil W 1, fun x hx => absurd hx List.not_mem_nil, .inl rfl⟩
  · simp [Value.cells] at hcs
    obtain ⟨rfl, rfl, rfl⟩ := hcs
    simp only [Prod.mk.injEq] at hx
    obtain ⟨rfl, rfl⟩ := hx
    simp only [if_true] at hz
    have hlen : (zs.take len).length = len := by rw [List.length_take]; omega
    refine ⟨zs.take len, ?_, fun x hx => ?_, .inr ⟨_, _, rfl, by simp [lits]⟩⟩
    · have := src_of (W := W) (a := a) (cap := cap) (vs := ints (zs.take len)) (len := len) (by simp [ints]; omega) (fun j u hu => by
        unfold ints at hu
        rw [List.getElem?_map] at hu
        cases hj : (zs.take len)[j]? with
        | none => rw [hj] at hu; cases hu
        | some y =>
          rw [hj] at hu
          injection hu with hu
          have hjl := (List.getElem?_eq_some_iff.1 hj).1
          rw [List.getElem?_take_of_lt (by omega)] at hj
          rw [hcell j (by omega), ← hu]
          simp [List.getD, hj])
      unfold SrcI
      rw [hlen]
      exact this
    · have := hwz x (List.mem_of_mem_take hx)
      simp only [Lit.wf, Bool.and_eq_true, decide_eq_true_eq] at this
      have e1 : IntKind.i64.min = -9223372036854775808 := rfl
      have e2 : IntKind.i64.max = 9223372036854775807 := rfl
      exact ⟨by omega, by omega⟩

set_option maxRecDepth 100000 in
theorem open_B (hv : Value.okWide Try.prog W .any base 22 v) (h : DataW.Trod enc Try.prog W 0 (fun _ => true) true 22 v d p) :
    ∃ l, Src W 1 v l.length (bytes l) ∧ By l ∧ (l = [] ∨ ∃ es sp, d = .slice es sp ∧ es.length = l.length) := by
  obtain ⟨a0, len, cap, rfl⟩ := okWide_slice Try.underlying22 hv
  obtain ⟨fuel, hf⟩ := h
  rcases open_ints Try.underlying22 Try.underlying5 cells_u8 hf with ⟨hcs, hx⟩ | ⟨a, len', cap', zs, hcs, _, hl, hm, hz, hx, hcell, hwz⟩
  · simp [Value.cells] at hcs
    obtain ⟨rfl, rfl, rfl⟩ := hcs
    exact ⟨[], src_nil W 1, By.nil, .inl rfl⟩
  · simp [Value.cells] at hcs
    obtain ⟨rfl, rfl, rfl⟩ := hcs
    simp only [Prod.mk.injEq] at hx
    obtain ⟨rfl, rfl⟩ := hx
    simp only [if_true] at hz
    have hlen : (zs.take len).length = len := by rw [List.length_take]; omega
    refine ⟨zs.take len, ?_, fun x hx => ?_, .inr ⟨_, _, rfl, by simp [lits]⟩⟩
    · have := src_of (W := W) (a := a) (cap := cap) (vs := bytes (zs.take len)) (len := len) (by rw [bytes_length]; omega) (fun j u hu => by
        obtain ⟨y, hj, rfl⟩ := bytes_at hu
        have hjl := (List.getElem?_eq_some_iff.1 hj).1
        rw [List.getElem?_take_of_lt (by omega)] at hj
        rw [hcell j (by omega)]
        simp [List.getD, hj])
      rw [hlen]
      exact this
    · have := hwz x (List.mem_of_mem_take hx)
      simp only [Lit.wf, Bool.and_eq_true, decide_eq_true_eq] at this
      have e1 : IntKind.u8.min = 0 := rfl
      have e2 : IntKind.u8.max = 255 := rfl
      omega

set_option maxRecDepth 100000 in
theorem open_S (hv : Value.okWide Try.prog W .any base 38 v) (h : DataW.Trod enc Try.prog W 0 (fun _ => true) true 38 v d p) :
    ∃ ss, SrcS W v ss ∧ (∀ s ∈ ss, s.size ≤ maxLen) ∧ (ss = [] ∨ ∃ es sp, d = .slice es sp ∧ es.length = ss.length) := by
  obtain ⟨a0, len, cap, rfl⟩ := okWide_slice Try.underlying38 hv
  obtain ⟨fuel, hf⟩ := h
  rcases open_strings Try.underlying38 Try.underlying9 cells_str hf with ⟨hcs, hx⟩ | ⟨a, len', cap', zs, hcs, _, hl, hm, hz, hx, hcell, hwz⟩
  · simp [Value.cells] at hcs
    obtain ⟨rfl, rfl, rfl⟩ := hcs
    exact ⟨[], src_nil W 1, fun x hx => absurd hx List.not_mem_nil, .inl rfl⟩
  · simp [Value.cells] at hcs
    obtain ⟨rfl, rfl, rfl⟩ := hcs
    simp only [Prod.mk.injEq] at hx
    obtain ⟨rfl, rfl⟩ := hx
    simp only [if_true] at hz
    have hlen : (zs.take len).length = len := by rw [List.length_take]; omega
    refine ⟨zs.take len, ?_, fun x hx => hwz x (List.mem_of_mem_take hx), .inr ⟨_, _, rfl, by simp [strs]⟩⟩
    have := src_of (W := W) (a := a) (cap := cap) (vs := (zs.take len).map Value.string) (len := len) (by simp; omega) (fun j u hu => by
      rw [List.getElem?_map] at hu
      cases hj : (zs.take len)[j]? with
      | none => rw [hj] at hu; cases hu
      | some y =>
        rw [hj] at hu
        injection hu with hu
        have hjl := (List.getElem?_eq_some_iff.1 hj).1
        rw [List.getElem?_take_of_lt (by omega)] at hj
        rw [hcell j (by omega), ← hu]
        simp [List.getD, hj])
    unfold SrcS
    rw [hlen]
    exact this
end

theorem sized_len {H : Type} {ts : List TypeId} {ds : List (DataW H)} {j : Nat} {t e : TypeId} {d : DataW H} {n b : Nat} (h : (DataW.weightsEach Try.prog ts ds).all (· ≤ reachBytes) = true) (ht : ts[j]? = some t) (hd : ds[j]? = some d) (hu : Try.prog.underlying t = some (.slice e))
    (hb : Try.prog.bytesOf e = b) (hb1 : 1 ≤ b) (hs : n = 0 ∨ ∃ es sp, d = .slice es sp ∧ es.length = n) : n ≤ 140737488355328 := by
  rcases hs with h0 | ⟨es, sp, rfl, rfl⟩
  · omega
  · have := sized_slice h ht hd hu
    rw [hb] at this
    simp only [reachBytes] at this
    have h2 : es.length ≤ (es.length + sp.length) * b := Nat.le_trans (Nat.le_add_right _ _) (Nat.le_mul_of_pos_right _ hb1)
    omega
end Go.Proofs.Ytfphdpcffjpbjaa.W
