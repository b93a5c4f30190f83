/-
  The arguments of a statement: a shape by value reads as its rings. No condition.
-/
import Derived.Test.YtfphdpcffjpbjaaOpen
import Derived.Test.YtfphdpcffjpbjaaShapeE
import Derived.Deep.Slices
namespace Go.Proofs.Ytfphdpcffjpbjaa.W
open Go.ChangeShapes Go.WideShapes Go.ChangeAt Go.RowKit Go.Joins Go.Deep Go.Proofs.Ytfphdpcffjpbjaa.Pl

theorem cells_vec : Try.prog.cellsOf 46 = 2 := by kernel_rfl
theorem cells_ring : Try.prog.cellsOf 42 = 1 := by kernel_rfl
theorem cells_shape : Try.prog.cellsOf 60 = 2 := by kernel_rfl

section
variable {H : Type} {enc : TypeId × Value → H} {W : World} {base : Nat} {fuel : Nat}

theorem i64_of {x : Int} (h : (Lit.int .i64 x).wf = true) : I64 x := by
  simp only [Lit.wf, Bool.and_eq_true, decide_eq_true_eq] at h
  have e1 : IntKind.i64.min = -9223372036854775808 := rfl
  have e2 : IntKind.i64.max = 9223372036854775807 := rfl
  exact ⟨by omega, by omega⟩

set_option maxRecDepth 100000 in
theorem vec_at {a : Addr} {cs : List Value} {y : DataW H × List MemPlace} (hc : W.cells? 0 a 2 = some cs) (h : DataW.trod enc Try.prog W 0 (fun _ => true) true fuel 46 cs = some y) :
    ∃ p : Int × Int, W.cell? a = some (.int .i64 p.1) ∧ W.cell? (a.add 1) = some (.int .i64 p.2) ∧ VI64 p := by
  obtain ⟨_, hcl, hat⟩ := World.cells?_some hc
  match cs, hcl with
  | [c0, c1], _ =>
    obtain ⟨y0, y1, n, _, _, h0, h1⟩ := trod_struct2 Try.underlying46 h
    simp [show Try.prog.cellsOf 3 = 1 from cells_int] at h0 h1
    obtain ⟨x0, e0, _, w0⟩ := DataW.trod_int Try.underlying3 h0
    obtain ⟨x1, e1, _, w1⟩ := DataW.trod_int Try.underlying3 h1
    simp at e0 e1
    subst e0 e1
    have k0 := hat 0 (by omega)
    have k1 := hat 1 (by omega)
    refine ⟨(x0, x1), ?_, ?_, i64_of w0, i64_of w1⟩
    · simpa [Addr.add] using k0
    · simpa using k1

set_option maxRecDepth 100000 in
theorem open_V {u : Value} {t : Nat} {y : DataW H × List MemPlace} (ht : Try.prog.underlying t = some (.slice 46)) (h : DataW.trod enc Try.prog W 0 (fun _ => true) true fuel t [u] = some y) :
    ∃ r, SrcV W u r ∧ (∀ p ∈ r, VI64 p) ∧ r.length ≤ maxLen := by
  rcases open_slice ht h with ⟨hcs, hx⟩ | ⟨a, len, cap, m, n, D, Pl, hcs, hb, hl, hm, hmm, hx, hi⟩
  · simp at hcs
    subst hcs
    exact ⟨[], src_nil W 2, fun p hp => absurd hp List.not_mem_nil, Nat.zero_le _⟩
  · simp at hcs
    subst hcs
    simp only [if_true] at hmm
    have hv : ∀ i, i < len → ∃ p : Int × Int, W.cell? (a.add (i * 2)) = some (.int .i64 p.1) ∧ W.cell? ((a.add (i * 2)).add 1) = some (.int .i64 p.2) ∧ VI64 p := fun i hil => by
      obtain ⟨cs', hc, ht'⟩ := hi i (by omega)
      rw [cells_vec] at hc
      exact vec_at hc ht'
    obtain ⟨f, hf⟩ := Classical.axiomOfChoice (fun i : Fin len => hv i.1 i.2)
    refine ⟨List.ofFn f, ?_, fun p hp => ?_, by rw [List.length_ofFn]; omega⟩
    · unfold SrcV
      rw [List.length_ofFn]
      refine ⟨by rw [vecs_length, List.length_ofFn], _, _, rfl, fun hn => ⟨a, rfl, ?_, fun j u hu => ?_⟩⟩
      · have := World.block_lt_of_cell? W _ (hf ⟨0, hn⟩).1
        rwa [block_add] at this
      · have hjl := (List.getElem?_eq_some_iff.1 hu).1
        rw [vecs_length, List.length_ofFn] at hjl
        obtain ⟨i, b, hb2, rfl⟩ : ∃ i b, b < 2 ∧ j = i * 2 + b := ⟨j / 2, j % 2, by omega, by omega⟩
        have hil : i < len := by omega
        have hr : (List.ofFn f)[i]? = some (f ⟨i, hil⟩) := by simp [hil]
        have hva := vecs_at hr
        have hff := hf ⟨i, hil⟩
        rcases (show b = 0 ∨ b = 1 by omega) with rfl | rfl
        · rw [Nat.add_zero] at hu ⊢
          rw [hva.1] at hu
          injection hu with hu
          rw [← hu]
          exact hff.1
        · rw [hva.2] at hu
          injection hu with hu
          rw [← hu, ← Go.Deep.add_add]
          exact hff.2.1
    · obtain ⟨i, rfl⟩ := List.mem_ofFn.1 hp
      exact (hf i).2.2

set_option maxRecDepth 100000 in
theorem open_R {u : Value} {y : DataW H × List MemPlace} (h : DataW.trod enc Try.prog W 0 (fun _ => true) true fuel 58 [u] = some y) :
    ∃ rs, SrcR W u rs ∧ (∀ r ∈ rs, (∀ p ∈ r, VI64 p) ∧ r.length ≤ maxLen) ∧ rs.length ≤ maxLen := by
  rcases open_slice Try.underlying58 h with ⟨hcs, hx⟩ | ⟨a, len, cap, m, n, D, Pl, hcs, hb, hl, hm, hmm, hx, hi⟩
  · simp at hcs
    subst hcs
    exact ⟨[], ⟨[], src_nil W 1, fun i u r hu => by simp at hu⟩, fun r hr => absurd hr List.not_mem_nil, Nat.zero_le _⟩
  · simp at hcs
    subst hcs
    simp only [if_true] at hmm
    have hv : ∀ i, i < len → ∃ q : Value × List (Int × Int), W.cell? (a.add (i * 1)) = some q.1 ∧ SrcV W q.1 q.2 ∧ (∀ p ∈ q.2, VI64 p) ∧ q.2.length ≤ maxLen := fun i hil => by
      obtain ⟨cs', hc, ht'⟩ := hi i (by omega)
      rw [cells_ring] at hc
      obtain ⟨_, hcl, hat⟩ := World.cells?_some hc
      match cs', hcl with
      | [c0], _ =>
        obtain ⟨r, h1, h2⟩ := open_V Try.underlying42 ht'
        have k0 := hat 0 (by omega)
        exact ⟨(c0, r), by simpa [Addr.add] using k0, h1, h2⟩
    obtain ⟨f, hf⟩ := Classical.axiomOfChoice (fun i : Fin len => hv i.1 i.2)
    refine ⟨List.ofFn (fun i => (f i).2), ⟨List.ofFn (fun i => (f i).1), ?_, fun i u r hu hr => ?_⟩, fun r hr => ?_, by rw [List.length_ofFn]; omega⟩
    · rw [List.length_ofFn]
      refine src_of (by rw [List.length_ofFn]) (fun j u hu => ?_)
      have hjl := (List.getElem?_eq_some_iff.1 hu).1
      rw [List.length_ofFn] at hjl
      have hr : (List.ofFn (fun i => (f i).1))[j]? = some (f ⟨j, hjl⟩).1 := by simp [hjl]
      rw [hr] at hu
      injection hu with hu
      rw [← hu]
      have := (hf ⟨j, hjl⟩).1
      simpa using this
    · have hil := (List.getElem?_eq_some_iff.1 hu).1
      rw [List.length_ofFn] at hil
      have e1 : (List.ofFn (fun i => (f i).1))[i]? = some (f ⟨i, hil⟩).1 := by simp [hil]
      have e2 : (List.ofFn (fun i => (f i).2))[i]? = some (f ⟨i, hil⟩).2 := by simp [hil]
      rw [e1] at hu
      rw [e2] at hr
      injection hu with hu
      injection hr with hr
      rw [← hu, ← hr]
      exact (hf ⟨i, hil⟩).2.1
    · obtain ⟨i, rfl⟩ := List.mem_ofFn.1 hr
      exact (hf i).2.2

set_option maxRecDepth 100000 in
theorem open_Sh {v : Value} {d : DataW H} {p : List MemPlace} (hv : Value.okWide Try.prog W .any base 60 v) (h : DataW.Trod enc Try.prog W 0 (fun _ => true) true 60 v d p) :
    ∃ (o hh : Value) (s : List (Int × Int) × List (List (Int × Int))), v = .agg #[o, hh] ∧ SrcV W o s.1 ∧ SrcR W hh s.2 ∧ ((∀ x ∈ s.1, VI64 x) ∧ s.1.length ≤ maxLen) ∧ (∀ r ∈ s.2, (∀ x ∈ r, VI64 x) ∧ r.length ≤ maxLen) ∧ s.2.length ≤ maxLen := by
  obtain ⟨c0, c1, y0, y1, n, rfl, _, _, h0, h1⟩ := open_agg2 Try.underlying60 (by kernel_rfl) cells_shape hv h
  obtain ⟨r, hr, hrI⟩ := open_V Try.underlying42 h0
  obtain ⟨rs, hrs, hrsI⟩ := open_R h1
  exact ⟨c0, c1, (r, rs), rfl, hr, hrs, hrI, hrsI⟩
end
end Go.Proofs.Ytfphdpcffjpbjaa.W
