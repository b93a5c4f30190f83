/-
  The arguments of a statement: bytes, numbers, a text. No condition.
-/
import Derived.Test.YtgiogocclkkkhaaFrame
import Derived.Test.YtgiogocclkkkhaaDPlain
import Derived.Test.YtgiogocclkkkhaaRec
import Derived.ChangeMaps5
namespace Go.Proofs.Ytgiogocclkkkhaa.W
open Go.ChangeShapes Go.WideShapes Go.ChangeAt Go.RowKit Go.Proofs.Ytgiogocclkkkhaa.Pl

theorem u64_of {x : Int} (h : (Lit.int .u64 x).wf = true) : U64 x := by
  simp only [Lit.wf, Bool.and_eq_true, decide_eq_true_eq] at h
  have e1 : IntKind.u64.min = 0 := rfl
  have e2 : IntKind.u64.max = 18446744073709551615 := rfl
  exact ⟨by omega, by omega⟩
theorem u16_of {x : Int} (h : (Lit.int .u16 x).wf = true) : 0 ≤ x ∧ x < 65536 := by
  simp only [Lit.wf, Bool.and_eq_true, decide_eq_true_eq] at h
  have e1 : IntKind.u16.min = 0 := rfl
  have e2 : IntKind.u16.max = 65535 := rfl
  exact ⟨by omega, by omega⟩
theorem cellsB : Try.prog.cellsOf 5 = 1 := by kernel_rfl
theorem bytesB : Try.prog.bytesOf 5 = 1 := by kernel_rfl
theorem restSrc {w : World} {g : Nat} {v : Value} {l : List Int} (h : Rest w g v l) : Src w 1 v l.length (bytes l) := by
  obtain ⟨A, c, rfl, h1, h2, h3⟩ := h
  refine ⟨by rw [bytes_length]; omega, A, c, rfl, fun hn => ?_⟩
  obtain ⟨o, rfl, hc⟩ := h3 (by rintro rfl; simp at hn)
  cases l with
  | nil => simp at hn
  | cons x t =>
    refine ⟨_, rfl, World.block_lt_of_cell? w _ (hc 0 x rfl), fun j u hu => ?_⟩
    obtain ⟨y, hy, rfl⟩ := bytes_at hu
    have hadd : (⟨g, o, none⟩ : Addr).add j = ⟨g, o + j, none⟩ := by
      unfold Addr.add
      split <;> simp_all
    rw [hadd]
    exact hc j y hy

section
variable {H : Type} {enc : TypeId × Value → H} {W : World} {base : Nat} {v : Value} {d : DataW H} {p : List MemPlace}

set_option maxRecDepth 100000 in
theorem openRest (hv : Value.okWide Try.prog W .any base 22 v) (h : DataW.Trod enc Try.prog W 0 (fun _ => true) true 22 v d p) :
    ∃ g l, Rest W g v l ∧ By l ∧ (l = [] ∨ ∃ es sp, d = .slice es sp ∧ es.length = l.length) := by
  obtain ⟨a0, len, cap, rfl⟩ := okWide_slice Try.underlying22 hv
  obtain ⟨fuel, hf⟩ := h
  rcases open_ints Try.underlying22 Try.underlying5 cellsB hf with ⟨hcs, hx⟩ | ⟨a, len', cap', zs, hcs, _, hlc, hm, hz, hx, hcell, hwz⟩
  · simp [Value.cells] at hcs
    obtain ⟨rfl, rfl, rfl⟩ := hcs
    exact ⟨0, [], Rest.none_ W 0 none 0 (Nat.zero_le _), By.nil, .inl rfl⟩
  · simp [Value.cells] at hcs
    obtain ⟨rfl, rfl, rfl⟩ := hcs
    simp only [Prod.mk.injEq] at hx
    obtain ⟨rfl, rfl⟩ := hx
    simp only [if_true] at hz
    have hlen : (zs.take len).length = len := by rw [List.length_take]; omega
    refine ⟨a.block, zs.take len, ⟨some a, cap, by rw [hlen], by rw [hlen]; exact hlc, hm, fun hne => ?_⟩, fun x hx => ?_, .inr ⟨_, _, rfl, by simp [lits]⟩⟩
    · have hl0 : 0 < len := by
        rcases Nat.eq_zero_or_pos len with e | e
        · exact absurd (List.eq_nil_of_length_eq_zero (hlen.trans e)) hne
        · exact e
      have h0 := hcell 0 (by omega)
      obtain ⟨g, o, sp⟩ := a
      have hsp : sp = none := by simpa [Addr.add] using World.cell?_spot h0
      subst hsp
      refine ⟨o, rfl, fun i x hx => ?_⟩
      have hi := (List.getElem?_eq_some_iff.1 hx).1
      have hc := hcell i (by omega)
      have ea : (⟨g, o, none⟩ : Addr).add i = ⟨g, o + i, none⟩ := by
        unfold Addr.add
        split <;> simp_all
      rw [ea] at hc
      rw [List.getElem?_take_of_lt (by omega)] at hx
      rw [hc]
      simp [List.getD, hx]
    · have := hwz x (List.mem_of_mem_take hx)
      simp only [Lit.wf, Bool.and_eq_true, decide_eq_true_eq] at this
      have e1 : IntKind.u8.min = 0 := rfl
      have e2 : IntKind.u8.max = 255 := rfl
      omega
end

section
variable {H : Type} {enc : TypeId × Value → H} {W : World} {base : Nat}
theorem cellsU16 : Try.prog.cellsOf 51 = 1 := by kernel_rfl
theorem cellsPair : Try.prog.cellsOf 52 = 2 := by kernel_rfl
theorem wideArray {P : Program} {r : Reach} {n : Nat} {e t : TypeId} {v : Value} (ht : P.underlying t = some (.array n e)) (h : Value.okWide P W r base t v) : ∃ cs, v = .agg cs ∧ cs.size = P.cellsOf t := by
  simp only [Value.okWide, ht] at h
  obtain ⟨cs, h1, h2, _⟩ := h
  exact ⟨cs, h1, h2⟩
set_option maxRecDepth 100000 in
theorem openPair {v : Value} {d : DataW H} {p : List MemPlace} (hv : Value.okWide Try.prog W .any base 52 v) (h : DataW.Trod enc Try.prog W 0 (fun _ => true) true 52 v d p) :
    ∃ x y, v = .agg #[.int .u16 x, .int .u16 y] ∧ (Lit.int .u16 x).wf = true ∧ (Lit.int .u16 y).wf = true := by
  obtain ⟨cs, rfl, hs⟩ := wideArray Try.underlying52 hv
  rw [cellsPair] at hs
  obtain ⟨fuel, hf⟩ := h
  obtain ⟨xs, m, _, _, _, hl, hi⟩ := DataW.trod_array Try.underlying52 hf
  match cs, hs with
  | ⟨[a, b]⟩, _ =>
    have h0 := hi 0 (by omega)
    have h1 := hi 1 (by omega)
    rw [cellsU16] at h0 h1
    match xs, hl with
    | [y0, y1], _ =>
      simp [Value.cells] at h0 h1
      obtain ⟨x, ex, _, wx⟩ := DataW.trod_int Try.underlying51 h0
      obtain ⟨y, ey, _, wy⟩ := DataW.trod_int Try.underlying51 h1
      simp at ex ey
      subst ex ey
      exact ⟨x, y, rfl, wx, wy⟩
end

theorem sizedLen {H : Type} {ts : List TypeId} {ds : List (DataW H)} {j : Nat} {t e : TypeId} {d : DataW H} {n b : Nat} (h : (DataW.weightsEach Try.prog ts ds).all (· ≤ reachBytes) = true) (ht : ts[j]? = some t) (hd : ds[j]? = some d) (hu : Try.prog.underlying t = some (.slice e))
    (hb : Try.prog.bytesOf e = b) (hb1 : 1 ≤ b) (hs : n = 0 ∨ ∃ es sp, d = .slice es sp ∧ es.length = n) : n ≤ 140737488355328 := by
  rcases hs with h0 | ⟨es, sp, rfl, rfl⟩
  · omega
  · have := sized_slice h ht hd hu
    rw [hb] at this
    simp only [reachBytes] at this
    have h2 : es.length ≤ (es.length + sp.length) * b := Nat.le_trans (Nat.le_add_right _ _) (Nat.le_mul_of_pos_right _ hb1)
    omega
end Go.Proofs.Ytgiogocclkkkhaa.W
