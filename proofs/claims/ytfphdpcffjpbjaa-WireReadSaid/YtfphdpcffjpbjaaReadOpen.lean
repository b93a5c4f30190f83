/-
  The arguments of WireRead: bytes, a list of calls (three integers each); a byte of a row of the call's own is written. No condition.
-/
import Derived.Test.YtfphdpcffjpbjaaOpenS
import Derived.Test.YtfphdpcffjpbjaaRec
import Derived.Deep.Strs
import Derived.ChangeMaps5
namespace Go.Proofs.Ytfphdpcffjpbjaa.W
open Go.ChangeShapes Go.WideShapes Go.ChangeAt Go.RowKit Go.Joins Go.Deep Go.Proofs.Ytfphdpcffjpbjaa.Pl

theorem cellsB : Try.prog.cellsOf 5 = 1 := by kernel_rfl
theorem bytesB : Try.prog.bytesOf 5 = 1 := by kernel_rfl
theorem restSrc {w : World} {g : Nat} {v : Value} {l : List Int} (h : Rest w g v l) : Src w 1 v l.length (bytes l) := by
  obtain ⟨A, c, rfl, h1, h2, h3⟩ := h
  refine ⟨by rw [bytes_length]; omega, A, c, rfl, fun hn => ?_⟩
  obtain ⟨o, rfl, hc⟩ := h3 (by rintro rfl; simp at hn)
  cases l with
  | nil => simp at hn
  | cons x t =>
    refine ⟨_, rfl, World.block_lt_of_cell? w _ (hc 0 x rfl), fun j u hu => ?_⟩
    obtain ⟨y, hy, rfl⟩ := bytes_at hu
    have hadd : (⟨g, o, none⟩ : Addr).add j = ⟨g, o + j, none⟩ := by
      unfold Addr.add
      split <;> simp_all
    rw [hadd]
    exact hc j y hy

section
variable {H : Type} {enc : TypeId × Value → H} {W : World} {base : Nat} {v : Value} {d : DataW H} {p : List MemPlace}

set_option maxRecDepth 100000 in
theorem openRest (hv : Value.okWide Try.prog W .any base 22 v) (h : DataW.Trod enc Try.prog W 0 (fun _ => true) true 22 v d p) :
    ∃ g l, Rest W g v l ∧ By l ∧ (l = [] ∨ ∃ es sp, d = .slice es sp ∧ es.length = l.length) := by
  obtain ⟨a0, len, cap, rfl⟩ := okWide_slice Try.underlying22 hv
  obtain ⟨fuel, hf⟩ := h
  rcases open_ints Try.underlying22 Try.underlying5 cellsB hf with ⟨hcs, hx⟩ | ⟨a, len', cap', zs, hcs, _, hlc, hm, hz, hx, hcell, hwz⟩
  · simp [Value.cells] at hcs
    obtain ⟨rfl, rfl, rfl⟩ := hcs
    exact ⟨0, [], Rest.none_ W 0 none 0 (Nat.zero_le _), By.nil, .inl rfl⟩
  · simp [Value.cells] at hcs
    obtain ⟨rfl, rfl, rfl⟩ := hcs
    simp only [Prod.mk.injEq] at hx
    obtain ⟨rfl, rfl⟩ := hx
    simp only [if_true] at hz
    have hlen : (zs.take len).length = len := by rw [List.length_take]; omega
    refine ⟨a.block, zs.take len, ⟨some a, cap, by rw [hlen], by rw [hlen]; exact hlc, hm, fun hne => ?_⟩, fun x hx => ?_, .inr ⟨_, _, rfl, by simp [lits]⟩⟩
    · have hl0 : 0 < len := by
        rcases Nat.eq_zero_or_pos len with e | e
        · exact absurd (List.eq_nil_of_length_eq_zero (hlen.trans e)) hne
        · exact e
      have h0 := hcell 0 (by omega)
      obtain ⟨g, o, sp⟩ := a
      have hsp : sp = none := by simpa [Addr.add] using World.cell?_spot h0
      subst hsp
      refine ⟨o, rfl, fun i x hx => ?_⟩
      have hi := (List.getElem?_eq_some_iff.1 hx).1
      have hc := hcell i (by omega)
      have ea : (⟨g, o, none⟩ : Addr).add i = ⟨g, o + i, none⟩ := by
        unfold Addr.add
        split <;> simp_all
      rw [ea] at hc
      rw [List.getElem?_take_of_lt (by omega)] at hx
      rw [hc]
      simp [List.getD, hx]
    · have := hwz x (List.mem_of_mem_take hx)
      simp only [Lit.wf, Bool.and_eq_true, decide_eq_true_eq] at this
      have e1 : IntKind.u8.min = 0 := rfl
      have e2 : IntKind.u8.max = 255 := rfl
      omega
end

theorem sizedLen {H : Type} {ts : List TypeId} {ds : List (DataW H)} {j : Nat} {t e : TypeId} {d : DataW H} {n b : Nat} (h : (DataW.weightsEach Try.prog ts ds).all (· ≤ reachBytes) = true) (ht : ts[j]? = some t) (hd : ds[j]? = some d) (hu : Try.prog.underlying t = some (.slice e))
    (hb : Try.prog.bytesOf e = b) (hb1 : 1 ≤ b) (hs : n = 0 ∨ ∃ es sp, d = .slice es sp ∧ es.length = n) : n ≤ 140737488355328 := by
  rcases hs with h0 | ⟨es, sp, rfl, rfl⟩
  · omega
  · have := sized_slice h ht hd hu
    rw [hb] at this
    simp only [reachBytes] at this
    have h2 : es.length ≤ (es.length + sp.length) * b := Nat.le_trans (Nat.le_add_right _ _) (Nat.le_mul_of_pos_right _ hb1)
    omega
theorem OwnB.set_ {w : World} {B g n c : Nat} {l : List Int} (h : OwnB w B (.slice (some ⟨g, 0, none⟩) n c) l) (k : Nat) (x : Int) : OwnB (w.setCell ⟨g, k, none⟩ (.int .u8 x)) B (.slice (some ⟨g, 0, none⟩) n c) (l.set k x) := by
  obtain ⟨h1, h2⟩ := h
  refine ⟨by rw [bytes_length]; omega, ?_⟩
  rcases h2 with ⟨e, _⟩ | ⟨g', cap, cur, e, hb, hg, hcap, hm, hs, ht⟩
  · cases e
  · simp only [Value.slice.injEq, Option.some.injEq, Addr.mk.injEq] at e
    obtain ⟨⟨rfl, _, _⟩, rfl, rfl⟩ := e
    refine .inr ⟨g, c, cur.set! k (.int .u8 x), by rw [List.length_set], hb, ?_, by rw [List.length_set]; exact hcap, hm, by simpa using hs, ?_⟩
    · simp [World.setCell, Array.getElem?_modify, hg]
    · have e2 : bytes (l.set k x) = (bytes l).set k (.int .u8 x) := by unfold bytes; rw [List.map_set]
      rw [e2, ← ht, List.length_set]
      simp [List.take_set]
theorem OwnB.cell {w : World} {B g n c k : Nat} {l : List Int} {x : Int} (h : OwnB w B (.slice (some ⟨g, 0, none⟩) n c) l) (hx : l[k]? = some x) : w.cell? ⟨g, k, none⟩ = some (.int .u8 x) ∧ w.frozen? ⟨g, k, none⟩ = false := by
  obtain ⟨h1, h2⟩ := h
  rcases h2 with ⟨e, _⟩ | ⟨g', cap, cur, e, hb, hg, hcap, hm, hs, ht⟩
  · cases e
  · simp only [Value.slice.injEq, Option.some.injEq, Addr.mk.injEq] at e
    obtain ⟨⟨rfl, _, _⟩, rfl, rfl⟩ := e
    have hb2 : (bytes l)[k]? = some (.int .u8 x) := by unfold bytes; rw [List.getElem?_map, hx]; rfl
    have hk := (List.getElem?_eq_some_iff.1 hx).1
    rw [← ht, List.getElem?_take_of_lt (by omega)] at hb2
    constructor
    · simp [World.cell?, hg]
      simpa using hb2
    · simp [World.frozen?, hg]
theorem OwnB.form {w : World} {B : Nat} {v : Value} {l : List Int} (h : OwnB w B v l) (hl : 0 < l.length) : ∃ g c, v = .slice (some ⟨g, 0, none⟩) l.length c ∧ B ≤ g ∧ g < w.heap.size ∧ l.length ≤ c ∧ c ≤ maxLen := by
  obtain ⟨h1, h2⟩ := h
  rcases h2 with ⟨_, e⟩ | ⟨g', cap, cur, e, hb, hg, hcap, hm, hs, ht⟩
  · omega
  · exact ⟨g', cap, e, hb, (Array.getElem?_eq_some_iff.1 hg).1, hcap, hm⟩

/-- calls as cells -/
def reads (r : List (Int × Int × Int)) : List Value := r.flatMap fun p => [.int .i64 p.1, .int .i64 p.2.1, .int .i64 p.2.2]
def SrcQ (w : World) (v : Value) (r : List (Int × Int × Int)) : Prop := Src w 3 v r.length (reads r)
def QI64 (p : Int × Int × Int) : Prop := I64 p.1 ∧ I64 p.2.1 ∧ I64 p.2.2
theorem reads_length : ∀ (r : List (Int × Int × Int)), (reads r).length = r.length * 3
  | [] => rfl
  | p :: r => by
    have := reads_length r
    unfold reads at this ⊢
    rw [List.flatMap_cons, List.length_append, List.length_cons, this]
    simp
    omega
theorem reads_at : ∀ {r : List (Int × Int × Int)} {k : Nat} {p : Int × Int × Int}, r[k]? = some p → (reads r)[k * 3]? = some (.int .i64 p.1) ∧ (reads r)[k * 3 + 1]? = some (.int .i64 p.2.1) ∧ (reads r)[k * 3 + 2]? = some (.int .i64 p.2.2)
  | [], k, p, h => by simp at h
  | q :: r, 0, p, h => by
    simp at h
    subst h
    exact ⟨rfl, rfl, rfl⟩
  | q :: r, k + 1, p, h => by
    have h' : r[k]? = some p := by simpa using h
    have := reads_at h'
    have e : reads (q :: r) = .int .i64 q.1 :: .int .i64 q.2.1 :: .int .i64 q.2.2 :: reads r := rfl
    rw [e]
    have e1 : (k + 1) * 3 = k * 3 + 1 + 1 + 1 := by omega
    rw [e1]
    exact this
theorem cells_read : Try.prog.cellsOf 32 = 3 := by kernel_rfl

section
variable {H : Type} {enc : TypeId × Value → H} {W : World} {base : Nat} {fuel : Nat}
set_option maxRecDepth 100000 in
theorem read_at {a : Addr} {cs : List Value} {y : DataW H × List MemPlace} (hc : W.cells? 0 a 3 = some cs) (h : DataW.trod enc Try.prog W 0 (fun _ => true) true fuel 32 cs = some y) :
    ∃ p : Int × Int × Int, W.cell? a = some (.int .i64 p.1) ∧ W.cell? (a.add 1) = some (.int .i64 p.2.1) ∧ W.cell? (a.add 2) = some (.int .i64 p.2.2) ∧ QI64 p := by
  obtain ⟨_, hcl, hat⟩ := World.cells?_some hc
  match cs, hcl with
  | [c0, c1, c2], _ =>
    obtain ⟨y0, y1, y2, n, _, _, h0, h1, h2⟩ := trod_struct3 Try.underlying32 h
    simp [show Try.prog.cellsOf 3 = 1 from cells_int] at h0 h1 h2
    obtain ⟨x0, e0, _, w0⟩ := DataW.trod_int Try.underlying3 h0
    obtain ⟨x1, e1, _, w1⟩ := DataW.trod_int Try.underlying3 h1
    obtain ⟨x2, e2, _, w2⟩ := DataW.trod_int Try.underlying3 h2
    simp at e0 e1 e2
    subst e0 e1 e2
    have k0 := hat 0 (by omega)
    have k1 := hat 1 (by omega)
    have k2 := hat 2 (by omega)
    refine ⟨(x0, x1, x2), ?_, ?_, ?_, i64_of w0, i64_of w1, i64_of w2⟩
    · simpa [Addr.add] using k0
    · simpa using k1
    · simpa using k2

set_option maxRecDepth 100000 in
theorem open_Q {u : Value} {d : DataW H} {p : List MemPlace} (hv : Value.okWide Try.prog W .any base 23 u) (h : DataW.Trod enc Try.prog W 0 (fun _ => true) true 23 u d p) :
    ∃ r, SrcQ W u r ∧ (∀ q ∈ r, QI64 q) := by
  obtain ⟨a0, len0, cap0, rfl⟩ := okWide_slice Try.underlying23 hv
  obtain ⟨fuel, hf⟩ := h
  rcases open_slice Try.underlying23 hf with ⟨hcs, hx⟩ | ⟨a, len, cap, m, n, D, Pl, hcs, hb, hl, hm, hmm, hx, hi⟩
  · simp [Value.cells] at hcs
    obtain ⟨rfl, rfl, rfl⟩ := hcs
    exact ⟨[], src_nil W 3, fun q hq => absurd hq List.not_mem_nil⟩
  · simp [Value.cells] at hcs
    obtain ⟨rfl, rfl, rfl⟩ := hcs
    simp only [if_true] at hmm
    have hv : ∀ i, i < len0 → ∃ p : Int × Int × Int, W.cell? (a.add (i * 3)) = some (.int .i64 p.1) ∧ W.cell? ((a.add (i * 3)).add 1) = some (.int .i64 p.2.1) ∧ W.cell? ((a.add (i * 3)).add 2) = some (.int .i64 p.2.2) ∧ QI64 p := fun i hil => by
      obtain ⟨cs', hc, ht'⟩ := hi i (by omega)
      rw [cells_read] at hc
      exact read_at hc ht'
    obtain ⟨f, hf⟩ := Classical.axiomOfChoice (fun i : Fin len0 => hv i.1 i.2)
    refine ⟨List.ofFn f, ?_, fun q hq => ?_⟩
    · unfold SrcQ
      rw [List.length_ofFn]
      refine ⟨by rw [reads_length, List.length_ofFn], _, _, rfl, fun hn => ⟨a, rfl, ?_, fun j u hu => ?_⟩⟩
      · have := World.block_lt_of_cell? W _ (hf ⟨0, hn⟩).1
        rwa [block_add] at this
      · have hjl := (List.getElem?_eq_some_iff.1 hu).1
        rw [reads_length, List.length_ofFn] at hjl
        obtain ⟨i, b, hb2, rfl⟩ : ∃ i b, b < 3 ∧ j = i * 3 + b := ⟨j / 3, j % 3, by omega, by omega⟩
        have hil : i < len0 := by omega
        have hr : (List.ofFn f)[i]? = some (f ⟨i, hil⟩) := by simp [hil]
        have hva := reads_at hr
        have hff := hf ⟨i, hil⟩
        rcases (show b = 0 ∨ b = 1 ∨ b = 2 by omega) with rfl | rfl | rfl
        · rw [Nat.add_zero] at hu ⊢
          rw [hva.1] at hu
          injection hu with hu
          rw [← hu]
          exact hff.1
        · rw [hva.2.1] at hu
          injection hu with hu
          rw [← hu, ← Go.Deep.add_add]
          exact hff.2.1
        · rw [hva.2.2] at hu
          injection hu with hu
          rw [← hu, ← Go.Deep.add_add]
          exact hff.2.2.1
    · obtain ⟨i, rfl⟩ := List.mem_ofFn.1 hq
      exact (hf i).2.2.2
end
end Go.Proofs.Ytfphdpcffjpbjaa.W
