/-
  vec: Compact of any list in a row that the call may turn: it returns the list rid of equal neighbours. Condition: the list is not longer than a slice may be.
  awake: the examples of the document hold. No condition.
  small: whether all coordinates are within 2^28: the call returns true. No condition.
  vec: two laws for Compact's inner loop: clear of a row of vectors, unequal vectors. No condition.
  vec: Compact of any list in a row that the call may turn: it returns the list rid of equal neighbours. Condition: the list is not longer than a slice may be.
  vec: Sorted of any list: it returns the list in ascending order, each vector once. Condition: the list is not longer than a slice may be.
  ring: a row of vectors of the call's own: what is stored into it. No condition.
  hull: slices.Values, Collect and SortedFunc at vectors: what they return. Condition: the list is not longer than 2^40.
-/
import Derived.Test.YthbgapcplgigoaaK08
import Derived.Lib.SliceRun
import Derived.Laws.StructEq
import Derived.Test.YthbgapcplgigoaaK02
namespace Go.Proofs.Ythbgapcplgigoaa.W
open Go.RowKit Go.Proofs.Ythbgapcplgigoaa.V

/-- a row of vectors, whose cells may be stored into -/
def RowV (w : World) (g : Nat) (l : List (Int × Int)) : Prop := ∀ i p, l[i]? = some p → (w.cell? ⟨g, i * 2, none⟩ = some (.int .i64 p.1) ∧ w.cell? ⟨g, i * 2 + 1, none⟩ = some (.int .i64 p.2)) ∧ w.frozen? ⟨g, i * 2, none⟩ = false ∧ w.frozen? ⟨g, i * 2 + 1, none⟩ = false
theorem frozen_set (w : World) (b o : Nat) (u : Value) (a : Addr) : (w.setCell ⟨b, o, none⟩ u).frozen? a = w.frozen? a := by
  have := World.frozen?_setCells b [u] o w a
  exact this
theorem RowV.of_holds {w : World} {g : Nat} {l : List (Int × Int)} (h : Sort.HoldsK vC 2 w g 0 l.toArray) : RowV w g l := by
  intro i p hp
  obtain ⟨hi, hv⟩ := List.getElem?_eq_some_iff.1 hp
  have h0 := Sort.HoldsK.cell h (i := i) (c := 0) (by simpa using hi) (by omega)
  have h1 := Sort.HoldsK.cell h (i := i) (c := 1) (by simpa using hi) (by omega)
  rw [show (l.toArray)[i]! = p by simp [hi, hv], Nat.zero_add] at h0 h1
  exact ⟨⟨h0.1, h1.1⟩, h0.2, h1.2⟩
theorem RowV.drew {w : World} {g : Nat} {l : List (Int × Int)} (h : RowV w g l) : RowV w.drew g l := h
theorem RowV.set_ {w : World} {g : Nat} {l : List (Int × Int)} (h : RowV w g l) {k : Nat} (hk : k < l.length) (x y : Int) : RowV ((w.setCell ⟨g, k * 2, none⟩ (.int .i64 x)).setCell ⟨g, k * 2 + 1, none⟩ (.int .i64 y)) g (l.set k (x, y)) := by
  intro i p hp
  obtain ⟨q, hq⟩ : ∃ q, l[k]? = some q := ⟨l[k], List.getElem?_eq_getElem hk⟩
  obtain ⟨⟨a, b⟩, c, d⟩ := h k q hq
  rw [frozen_set, frozen_set, frozen_set, frozen_set]
  by_cases hi : i = k
  · subst hi
    rw [List.getElem?_set_self hk] at hp
    injection hp with hp
    subst hp
    refine ⟨⟨?_, ?_⟩, c, d⟩
    · exact (World.cell?_setCell_other _ _ _ _ (by intro e; injection e with _ e; omega)).trans (World.cell?_setCell_same _ _ _ a)
    · exact World.cell?_setCell_same _ _ _ ((World.cell?_setCell_other _ _ _ _ (by intro e; injection e with _ e; omega)).trans b)
  · rw [List.getElem?_set_ne (by omega)] at hp
    obtain ⟨⟨a', b'⟩, c', d'⟩ := h i p hp
    refine ⟨⟨?_, ?_⟩, c', d'⟩
    · exact (World.cell?_setCell_other _ _ _ _ (by intro e; injection e with _ e; omega)).trans ((World.cell?_setCell_other _ _ _ _ (by intro e; injection e with _ e; omega)).trans a')
    · exact (World.cell?_setCell_other _ _ _ _ (by intro e; injection e with _ e; omega)).trans ((World.cell?_setCell_other _ _ _ _ (by intro e; injection e with _ e; omega)).trans b')
theorem RowV.src {w : World} {g cap m : Nat} {l d : List (Int × Int)} (h : RowV w g l) (hg : g < w.heap.size) (hd : l.take m = d) (hm : d.length = m) (hc : m ≤ cap) (hx : cap ≤ maxLen) : SrcV w (.slice (some ⟨g, 0, none⟩) m cap) d := by
  subst hm
  refine ⟨flatV_len d, _, _, rfl, hc, hx, fun _ => ⟨g, 0, rfl, hg, fun j u hu => ?_⟩⟩
  have hj : j < d.length * 2 := by
    obtain ⟨h, _⟩ := List.getElem?_eq_some_iff.1 hu
    rwa [flatV_len] at h
  have hq : j / 2 < d.length := by omega
  have hx : d[j / 2]? = some (d[j / 2]'hq) := List.getElem?_eq_getElem hq
  obtain ⟨f1, f2⟩ := flatV_at d (j / 2) _ hx
  have hl : l[j / 2]? = some (d[j / 2]'hq) := by
    rw [← hx, ← hd, List.getElem?_take_of_lt hq]
  obtain ⟨⟨a, b⟩, _⟩ := h _ _ hl
  rw [Nat.zero_add]
  rcases Nat.mod_two_eq_zero_or_one j with e | e
  · rw [show j / 2 * 2 = j by omega] at f1 a
    rw [a, ← f1, hu]
  · rw [show j / 2 * 2 + 1 = j by omega] at f2 b
    rw [b, ← f2, hu]
theorem setCells_kp (b : Nat) : ∀ (vs : List Value) (o : Nat) (w : World), Kp (fun i => i = b) w (w.setCells b o vs)
  | [], _, w => Kp.refl _ w
  | v :: r, o, w => (kp_set w b o v).tr (setCells_kp b r (o + 1) (w.setCell ⟨b, o, none⟩ v))
theorem clear_vecs (ty : TypeId) (b o n c : Nat) (w : World) (hn : 0 < n) (hc : ∀ j, j < n * 2 → (w.cell? ⟨b, o + j, none⟩).isSome = true) (hf : ∀ j, j < n * 2 → w.frozen? ⟨b, o + j, none⟩ = false) :
    (Builtin.clear_ #[22] ty #[.slice (some ⟨b, o, none⟩) n c]).run Try.prog w = .ok (.tuple #[]) (w.setCells b o (List.replicate (n * 2) (.int .i64 0))) := by
  have hv : ∀ w, (zeroValue 32).run Try.prog w = .ok (vV 0 0) w := fun w => by
    obtain ⟨i0, hi, hz, _⟩ := vec_info
    simp [zeroValue, typeInfo, hi, hz]
  have hzc : (Builtin.zeroCells (vV 0 0).cells n).toList = List.replicate (n * 2) (.int .i64 0) := by
    simp [Builtin.zeroCells, Value.cells]
    apply List.ext_getElem
    · simp
    · intro i h1 h2
      rcases Nat.mod_two_eq_zero_or_one i with e | e <;> simp [e]
  have hst := run_storeCells_cells (P := Try.prog) b o (List.replicate (n * 2) (.int .i64 0)) 0 w (by simpa using hc) (by simpa using hf) (by intro v hv'; rw [List.eq_of_mem_replicate hv']; rfl)
  simp only [Nat.add_zero] at hst
  obtain ⟨m, rfl⟩ : ∃ m, n = m + 1 := ⟨n - 1, by omega⟩
  simp [Builtin.clear_, run_underlying Try.underlying22, hv, hzc, hst]
end Go.Proofs.Ythbgapcplgigoaa.W

namespace Go.Proofs.Ythbgapcplgigoaa.W
open Go.RowKit Go.Proofs.Ythbgapcplgigoaa.V

theorem aw_sort : sortV [(3, 0), (0, 1), (2, 0)] = [(2, 0), (3, 0), (0, 1)] := by
  simp [sortV, List.mergeSort, List.MergeSort.Internal.splitInTwo, lt_cf, lessV]
theorem aw_apart : Apart [(2, 0), (3, 0), (0, 1)] := by
  intro i p q hp hq
  match i with
  | 0 => simp at hp hq; subst hp hq; simp
  | 1 => simp at hp hq; subst hp hq; simp
  | i + 2 => simp at hq
theorem aw_turn : turnV 0 0 4 0 1 2 = 1 := by decide +kernel
theorem aw_within : withinV 2 0 2 = true := by decide +kernel
theorem aw_norm : normV 3 0 = 3 := by decide +kernel
theorem src_blk {w : World} {g : Nat} {l : List (Int × Int)} (h : Blk w g 32 (l.flatMap vC).toArray) (hl : l.length ≤ 1099511627776) : SrcV w (.slice (some ⟨g, 0, none⟩) l.length l.length) l := by
  refine ⟨flatV_len l, _, _, rfl, Nat.le_refl _, by unfold maxLen; omega, fun _ => ⟨g, 0, rfl, h.lt, fun j u hu => ?_⟩⟩
  rw [Nat.zero_add, h.cell j, List.getElem?_toArray]
  exact hu

end Go.Proofs.Ythbgapcplgigoaa.W

namespace Go.Proofs.Ythbgapcplgigoaa.W
open Go.RowKit Go.Proofs.Ythbgapcplgigoaa.V

theorem eql_vec (x1 x2 y1 y2 : Int) (w : World) : (binOp .eql 32 (.agg #[.int .i64 x1, .int .i64 x2]) (.agg #[.int .i64 y1, .int .i64 y2])).run Try.prog w = .ok (.bool (x1 == y1 && x2 == y2)) w := by
  have u3 := Try.underlying3
  have a3 := Try.isAgg3
  have z3 := Try.sizeOf3
  have hS : Try.prog.underlying 32 = some (.struct (Try.prog.fieldsOf 32)) := by kernel_rfl
  have hp : Try.prog.stoodInHeld 32 = false := by kernel_rfl
  rw [run_eql_struct, show (10000 : Nat) = 9999 + 1 from rfl, run_equalIn_agg w 9999 32 _ _ hS hp]
  simp only [Program.fieldsOf, Try.underlying32]
  go_simp
  by_cases h1 : x1 = y1 <;> by_cases h2 : x2 = y2 <;> simp [h1, h2]
theorem four_new (w : World) (t : TypeId) (a b c d : Array Value) : Blk ((((w.alloc (.cells a t)).alloc (.cells b t)).alloc (.cells c t)).alloc (.cells d t)).drew w.heap.size t a ∧ Blk ((((w.alloc (.cells a t)).alloc (.cells b t)).alloc (.cells c t)).alloc (.cells d t)).drew (w.heap.size + 1) t b ∧ Blk ((((w.alloc (.cells a t)).alloc (.cells b t)).alloc (.cells c t)).alloc (.cells d t)).drew (w.heap.size + 1 + 1) t c ∧ Blk ((((w.alloc (.cells a t)).alloc (.cells b t)).alloc (.cells c t)).alloc (.cells d t)).drew (w.heap.size + 1 + 1 + 1) t d ∧ Nw w ((((w.alloc (.cells a t)).alloc (.cells b t)).alloc (.cells c t)).alloc (.cells d t)).drew :=
  ⟨((((Blk.new w t a).alloc _).alloc _).alloc _).drew, (((Blk.new_at _ t b (by simp)).alloc _).alloc _).drew, ((Blk.new_at _ t c (by simp)).alloc _).drew, (Blk.new_at _ t d (by simp)).drew, ((((nw_alloc w _).alloc _).alloc _).alloc _).drew⟩

end Go.Proofs.Ythbgapcplgigoaa.W

namespace Go.Proofs.Ythbgapcplgigoaa.W
open Go.RowKit Go.Proofs.Ythbgapcplgigoaa.V

theorem neq_vec (x1 x2 y1 y2 : Int) (w : World) : (binOp .neq 32 (.agg #[.int .i64 x1, .int .i64 x2]) (.agg #[.int .i64 y1, .int .i64 y2])).run Try.prog w = .ok (.bool (!(x1 == y1 && x2 == y2))) w := by
  have u3 := Try.underlying3
  have a3 := Try.isAgg3
  have z3 := Try.sizeOf3
  have hS : Try.prog.underlying 32 = some (.struct (Try.prog.fieldsOf 32)) := by kernel_rfl
  have hp : Try.prog.stoodInHeld 32 = false := by kernel_rfl
  rw [run_neq_struct, show (10000 : Nat) = 9999 + 1 from rfl, run_equalIn_agg w 9999 32 _ _ hS hp]
  simp only [Program.fieldsOf, Try.underlying32]
  go_simp
  by_cases h1 : x1 = y1 <;> by_cases h2 : x2 = y2 <;> simp [h1, h2]
theorem RowV.some_ {w : World} {g : Nat} {l : List (Int × Int)} (h : RowV w g l) {i : Nat} (hi : i < l.length * 2) : (w.cell? ⟨g, i, none⟩).isSome = true ∧ w.frozen? ⟨g, i, none⟩ = false := by
  have hq : i / 2 < l.length := by omega
  obtain ⟨⟨a, b⟩, c, d⟩ := h (i / 2) _ (List.getElem?_eq_getElem hq)
  rcases Nat.mod_two_eq_zero_or_one i with e | e
  · rw [show i / 2 * 2 = i by omega] at a c
    exact ⟨by rw [a]; rfl, c⟩
  · rw [show i / 2 * 2 + 1 = i by omega] at b d
    exact ⟨by rw [b]; rfl, d⟩
/-- what lies ahead of the cells that are laid reads as it did -/
theorem src_ahead {w : World} {g m cap f : Nat} {l : List (Int × Int)} {vs : List Value} (h : SrcV w (.slice (some ⟨g, 0, none⟩) m cap) l) (hm : l.length = m) (hf : m * 2 ≤ f) : SrcV (w.setCells g f vs) (.slice (some ⟨g, 0, none⟩) m cap) l := by
  obtain ⟨hl, A, c, e, h1, h2, hc⟩ := h
  refine ⟨hl, A, c, e, h1, h2, fun hn => ?_⟩
  obtain ⟨g', o', rfl, hb, hcell⟩ := hc hn
  injection e with e1 e2 e3
  injection e1 with e1
  injection e1 with e4 e5
  subst e4 e5
  refine ⟨_, _, rfl, Nat.lt_of_lt_of_le hb (setCells_kp g vs f w).size, fun j u hu => ?_⟩
  have hj : j < l.length * 2 := by
    have := (List.getElem?_eq_some_iff.1 hu).1
    rw [flatV_len] at this
    exact this
  rw [World.cell?_setCells_out g vs f w _ (fun _ _ => .inl (by simp; omega))]
  exact hcell j u hu
section
variable {w : World} {ops : Array Oper} {rest : List Oper} {o : Oper} {a : Act} {Q : Exit → Act → World → Prop}
theorem wp_clear (hgd : o.guard = none) (s : Operand) (ho : o.op = .call { callee := .builtin .clear, args := #[s], argTypes := #[22] })
    (b f n c : Nat) (hs : a.eval s = .slice (some ⟨b, f, none⟩) n c) (hn : 0 < n) (hc : ∀ j, j < n * 2 → (w.cell? ⟨b, f + j, none⟩).isSome = true) (hf : ∀ j, j < n * 2 → w.frozen? ⟨b, f + j, none⟩ = false)
    (h : wpList Try.prog ops Q rest (a.put o.dst (.tuple #[])) (w.setCells b f (List.replicate (n * 2) (.int .i64 0)))) :
    wpList Try.prog ops Q (o :: rest) a w := by
  have hr := clear_vecs o.type b f n c w hn hc hf
  refine wpList_plain hgd fun K hK => ?_
  unfold Oper.wp execOp
  simp only [ho, resolve, invoke, builtin, Sem.run_bind, Sem.run_pure, Result.andThen_ok, List.map_toArray, List.map_cons, List.map_nil, hs, hr]
  exact hK _ _ h
end
end Go.Proofs.Ythbgapcplgigoaa.W

namespace Go.Proofs.Ythbgapcplgigoaa.W
open Go.RowKit Go.Proofs.Ythbgapcplgigoaa.V

end Go.Proofs.Ythbgapcplgigoaa.W

namespace Go.Proofs.Ythbgapcplgigoaa.W
open Go.RowKit Go.Proofs.Ythbgapcplgigoaa.V

theorem src_none (w : World) (A : Option Addr) (c : Nat) (hc : c ≤ maxLen) : SrcV w (.slice A 0 c) [] := ⟨rfl, A, c, rfl, Nat.zero_le _, hc, fun h => absurd h (Nat.lt_irrefl 0)⟩
end Go.Proofs.Ythbgapcplgigoaa.W

namespace Go.Proofs.Ythbgapcplgigoaa.W
open Go.RowKit Go.Proofs.Ythbgapcplgigoaa.V Go.Proofs.Ythbgapcplgigoaa.G

/-- a slice of a list in a row that has been made since w0, whose cells may be stored into; or one that is empty -/
def OwnL (w0 w : World) (v : Value) (l : List (Int × Int)) : Prop :=
  (∃ k cap, v = .slice (some ⟨k, 0, none⟩) l.length cap ∧ w0.heap.size ≤ k ∧ k < w.heap.size ∧ l.length ≤ cap ∧ cap ≤ maxLen ∧ RowV w k l) ∨ (l = [] ∧ ∃ A c, v = .slice A 0 c ∧ c ≤ maxLen)
theorem OwnL.src {w0 w : World} {v : Value} {l : List (Int × Int)} (h : OwnL w0 w v l) : SrcV w v l := by
  rcases h with ⟨k, cap, rfl, h1, h2, h3, h4, h5⟩ | ⟨rfl, A, c, rfl, h⟩
  · exact RowV.src h5 h2 (List.take_length ..) rfl h3 h4
  · exact src_none _ _ _ h
theorem RowV.nw {w w' : World} {g : Nat} {l : List (Int × Int)} (h : RowV w g l) (hg : g < w.heap.size) (hk : Nw w w') : RowV w' g l := by
  intro i p hp
  obtain ⟨⟨a, b⟩, c, d⟩ := h i p hp
  exact ⟨⟨(hk.cell (p := ⟨g, i * 2, none⟩) hg id).trans a, (hk.cell (p := ⟨g, i * 2 + 1, none⟩) hg id).trans b⟩, (hk.frozen (p := ⟨g, i * 2, none⟩) hg id).trans c, (hk.frozen (p := ⟨g, i * 2 + 1, none⟩) hg id).trans d⟩
theorem OwnL.nw {w0 w w' : World} {v : Value} {l : List (Int × Int)} (h : OwnL w0 w v l) (hk : Nw w w') : OwnL w0 w' v l := by
  rcases h with ⟨k, cap, rfl, h1, h2, h3, h4, h5⟩ | h
  · exact .inl ⟨k, cap, rfl, h1, Nat.lt_of_lt_of_le h2 hk.size, h3, h4, h5.nw h2 hk⟩
  · exact .inr h
theorem RowV.pre {w : World} {g : Nat} {l r : List (Int × Int)} (h : RowV w g (l ++ r)) : RowV w g l := by
  intro i p hp
  have hi := (List.getElem?_eq_some_iff.1 hp).1
  exact h i p (by rw [List.getElem?_append_left hi]; exact hp)
theorem RowV.sets {g : Nat} : ∀ (m : List (Int × Int)) (w : World) (l : List (Int × Int)) (i : Nat), RowV w g l → i + m.length ≤ l.length → RowV (w.setCells g (i * 2) (m.flatMap vC)) g (l.take i ++ m ++ l.drop (i + m.length))
  | [], w, l, i, h, _ => by
    simp only [List.append_nil, List.length_nil, Nat.add_zero, List.take_append_drop]
    exact h
  | x :: m, w, l, i, h, hm => by
    rw [List.length_cons] at hm
    have hi : i < l.length := by omega
    have h1 := h.set_ (k := i) hi x.1 x.2
    have h2 := RowV.sets m _ _ (i + 1) h1 (by rw [List.length_set]; omega)
    rw [List.flatMap_cons]
    show RowV (((w.setCell ⟨g, i * 2, none⟩ (.int .i64 x.1)).setCell ⟨g, i * 2 + 1, none⟩ (.int .i64 x.2)).setCells g (i * 2 + 1 + 1) (m.flatMap vC)) g _
    rw [show i * 2 + 1 + 1 = (i + 1) * 2 by omega]
    have e : (l.set i (x.1, x.2)).take (i + 1) ++ m ++ (l.set i (x.1, x.2)).drop (i + 1 + m.length) = l.take i ++ x :: m ++ l.drop (i + (x :: m).length) := by
      rw [List.take_add_one, List.getElem?_set_self hi, List.take_set_of_le (Nat.le_refl _), List.drop_set_of_lt (by omega), List.length_cons, show i + (m.length + 1) = i + 1 + m.length by omega]
      simp
    rw [← e]
    exact h2
theorem kp_sets (g f : Nat) (vs : List Value) (w : World) : Kp (fun i => i = g) w (w.setCells g f vs) := setCells_kp g vs f w
theorem RowV.holds {w : World} {g : Nat} {l : List (Int × Int)} (h : RowV w g l) : Sort.HoldsK vC 2 w g 0 l.toArray := by
  intro j hj
  rw [Sort.size_flatK] at hj
  have hj' : j < l.length * 2 := by simpa using hj
  rw [Sort.get_flatK _ _ _ _ hj]
  have hq : j / 2 < l.length := by omega
  obtain ⟨⟨a, b⟩, c, d⟩ := h (j / 2) _ (List.getElem?_eq_getElem hq)
  have hd : (l.toArray)[j / 2]! = l[j / 2]'hq := by simp [hq]
  rw [hd, Nat.zero_add]
  rcases Nat.mod_two_eq_zero_or_one j with e | e
  · rw [e]
    rw [show j / 2 * 2 = j by omega] at a c
    exact ⟨a, c⟩
  · rw [e]
    rw [show j / 2 * 2 + 1 = j by omega] at b d
    exact ⟨b, d⟩
end Go.Proofs.Ythbgapcplgigoaa.W

namespace Go.Proofs.Ythbgapcplgigoaa.W
open Go.RowKit Go.Proofs.Ythbgapcplgigoaa.V Go.Proofs.Ythbgapcplgigoaa.G


open Go.Shelf
attribute [local go_sem] Oper.semAt_some
theorem infoP : (Try.prog.info? 32).map (fun i => (i.zero, i.size, i.bytes)) = some (some (.agg #[.int .i64 0, .int .i64 0]), 2, 16) := by kernel_rfl
/-- a row of vectors of the call's own -/
def OwnVV (w : World) (B : Nat) (v : Value) (l : List (Int × Int)) : Prop := w.ownsRow B 32 2 v l.length (flat vC l)
theorem OwnVV.nil (w : World) (B : Nat) : OwnVV w B (.slice none 0 0) [] := World.ownsRow_nil _ _ _ _
theorem OwnVV.src {w : World} {B : Nat} {v : Value} {l : List (Int × Int)} (h : OwnVV w B v l) : SrcV w v l := own_src h
theorem OwnVV.kp {S : Nat → Prop} {w w' : World} {B : Nat} {v : Value} {l : List (Int × Int)} (h : OwnVV w B v l) (hk : Kp S w w') (hv : ∀ g, v.ownBlock = some g → ¬ S g) : OwnVV w' B v l := own_kp h hk hv
theorem OwnVV.nw {w w' : World} {B : Nat} {v : Value} {l : List (Int × Int)} (h : OwnVV w B v l) (hk : Nw w w') : OwnVV w' B v l := own_nw h hk

/-- what the loop owns: the box of its list, and the list's row -/
def OwnC (C : Nat) (W : World) (k : Nat) : Prop := k = C ∨ ∃ v, Blk W C 22 #[v] ∧ v.ownBlock = some k
theorem Blk.same {W : World} {g : Nat} {t t' : TypeId} {v u : Value} (h : Blk W g t #[v]) (h' : Blk W g t' #[u]) : v = u := by
  unfold Blk at h h'
  rw [h] at h'
  injection h' with h'
  injection h' with h'
  simpa using h'
/-- the list in the box holds pre; the rest is as at the loop's start -/
structure Coll (w : World) (C : Nat) (v : Value) (pre : List (Int × Int)) (W : World) : Prop where
  box : Blk W C 22 #[v]
  row : OwnVV W w.heap.size v pre
  kp : Kp (fun k => k = C) w W
def CollI (w : World) (C : Nat) (pre : List (Int × Int)) (W : World) : Prop := ∃ v, Coll w C v pre W

theorem OwnC.of {C k : Nat} {W : World} {v : Value} (hb : Blk W C 22 #[v]) (h : OwnC C W k) : k = C ∨ v.ownBlock = some k := h.imp id fun ⟨_, hb', e⟩ => hb.same hb' ▸ e
theorem ownC_keep {C : Nat} {S : Nat → Prop} {W W' : World} {v : Value} (hb : Blk W C 22 #[v]) (hk : Kp S W W') (hC : ¬ S C) : ∀ k, OwnC C W' k → OwnC C W k := fun _ e =>
  (e.of (hb.kp hk hC)).imp id fun e => ⟨v, hb, e⟩
theorem Coll.lt {w W : World} {C k : Nat} {v : Value} {pre : List (Int × Int)} (h : Coll w C v pre W) (e : OwnC C W k) : k < W.heap.size := by
  rcases e.of h.box with rfl | e
  · exact h.box.lt
  · exact own_lt h.row k e
theorem Coll.abide {S : Nat → Prop} {w W W' : World} {C : Nat} {v : Value} {pre : List (Int × Int)} (h : Coll w C v pre W) (hk : Kp S W W') (hS : ∀ k, S k → w.heap.size ≤ k ∧ ¬ OwnC C W k) : Coll w C v pre W' :=
  ⟨h.box.kp hk (fun e => (hS C e).2 (.inl rfl)), h.row.kp hk (fun g e e2 => (hS g e2).2 (.inr ⟨v, h.box, e⟩)), h.kp.trans hk fun i hi e => absurd (hS i e).1 (by omega)⟩

theorem coll_own (w : World) (C : Nat) : OwnJ w.heap.size (OwnC C) (CollI w C) :=
  ⟨fun _ _ _ _ ⟨v, h⟩ hk hS => ⟨v, h.abide hk hS⟩, fun _ _ _ _ ⟨_, h⟩ hk hS => ownC_keep h.box hk (fun e => (hS C e).2 (.inl rfl)), fun _ _ _ ⟨_, h⟩ e => h.lt e⟩

/-- a round: an element is appended, the list is stored -/
theorem Coll.next {w W W5 : World} {C : Nat} {v v' : Value} {pre : List (Int × Int)} {x : Int × Int} (h : Coll w C v pre W) (hC : C < w.heap.size)
    (own : W5.ownsRow w.heap.size 32 2 v' (pre.length + 1) (flat vC pre ++ [.int .i64 x.1, .int .i64 x.2])) (gr : Grew W W5 v v') :
    Coll w C v' (pre ++ [x]) (W5.setCell ⟨C, 0, none⟩ v') ∧ Rd (OwnC C) W (W5.setCell ⟨C, 0, none⟩ v') := by
  have hvC : v.ownBlock ≠ some C := fun e => absurd (own_from h.row C e) (by omega)
  have hv'C : v'.ownBlock ≠ some C := fun e => absurd (own_from own C e) (by omega)
  have hb5 := h.box.kp gr.by_ hvC
  have hb6 : Blk (W5.setCell ⟨C, 0, none⟩ v') C 22 #[v'] := hb5.set_ 0 v'
  have hkC := kp_set W5 C 0 v'
  have hr5 : OwnVV W5 w.heap.size v' (pre ++ [x]) := by
    unfold OwnVV
    rw [flat_snoc, List.length_append]
    exact own
  refine ⟨⟨hb6, hr5.kp hkC (fun g e e2 => hv'C (e2 ▸ e)), ?_⟩, ?_, ?_⟩
  · exact (h.kp.trans gr.by_ (fun i hi e => absurd (own_from h.row i e) (by omega))).trans hkC (fun _ _ e => e)
  · exact (gr.by_.mono (T := OwnC C W) fun i _ e => .inr ⟨v, h.box, e⟩).trans hkC (fun i _ e => .inl e)
  · intro k e
    rcases e.of hb6 with e | e
    · exact .inl (.inl e)
    · rcases gr.at_ with e2 | ⟨k2, e2, hk2⟩
      · exact .inl (.inr ⟨v, h.box, e2 ▸ e⟩)
      · rw [e2] at e
        injection e with e
        exact .inr (e ▸ hk2)

theorem values_any (v : Value) (l : List (Int × Int)) (w : World) (hv : SrcV w v l) : Calls Try.prog 37 #[v] w fun e w' => e = .returned (.func (.func 59) #[] #[.pointer (some ⟨w.heap.size, 0, none⟩)]) ∧ w' = w.alloc (.cells #[v] 22) := by
  obtain ⟨A, c, rfl⟩ := hv.shape
  go_enter Try.func37, Try.ntmps37
  go_wp2
  go_ret
  exact ⟨rfl, rfl⟩
abbrev encP (x : Int × Int) : Value := vV x.1 x.2
set_option maxRecDepth 100000 in
set_option maxHeartbeats 3200000 in
theorem values_it (B : Nat) (v : Value) (l : List (Int × Int)) (w : World) (hB : Blk w B 22 #[v]) (hv : SrcV w v l) (hl : l.length ≤ 1099511627776) : SeqItS (fun k => k = B ∨ (0 < l.length ∧ v.ownBlock = some k)) 59 #[.pointer (some ⟨B, 0, none⟩)] encP l w := by
  obtain ⟨A, c, rfl⟩ := hv.shape
  intro li O J Jx W hW hJ hOS hY h0
  obtain ⟨n, hn⟩ : ∃ n, l.length = n := ⟨_, rfl⟩
  replace hv := src_n hv hn
  rw [hn] at hl hB hOS
  have hvW : SrcN W A n c l := Src.nw hv hW
  have hmx := src_max hv
  have HWS := Lib.hid hW.size
  have HN := Lib.hid hn
  have hBW := hB.kp hW (fun e => e)
  obtain ⟨b0, b1⟩ := hBW.one
  clear hn hv hB
  refine callsIn_of_wp Try.func59 rfl trivial ?_ rfl
  simp only [Try.ntmps59, List.size_toArray, List.length_cons, List.length_nil, Nat.reduceAdd, Nat.reduceSub, Array.replicate_succ, Array.replicate_zero, List.push_toArray, List.append_toArray, List.nil_append, List.cons_append]
  gi_wp2
  gi_loopw [7] (fun i wr => ∃ k : Nat, i = .int .i64 k ∧ k ≤ n ∧ J (l.take k) wr ∧ SrcN wr A n c l) (fun i _ => n - (intOf i).toNat)
  case atStart => exact ⟨0, rfl, Nat.zero_le _, h0, hvW⟩
  case round =>
    obtain ⟨k, rfl, hk, hj, hs⟩ := hrel
    by_cases hkn : k < n
    · have i0 : (0 : Int) ≤ (k : Int) := by omega
      have i1 : (k : Int) < (n : Int) := by omega
      obtain ⟨s4, hs4⟩ : ∃ s : Nat, k + 1 = s := ⟨_, rfl⟩
      have a4 : IntKind.i64.wrap ((k : Int) + 1) = (s4 : Int) := by rw [IntKind.wrap_i64]; omega
      have H4 := Lib.hid hs4
      obtain ⟨g, o, rfl, hg, hc⟩ := src_at hs (by omega)
      obtain ⟨⟨px, py⟩, hp⟩ : ∃ p, at_ l k = p := ⟨_, rfl⟩
      obtain ⟨q0, q1⟩ := hc wr (Kp.refl _ _) k hkn
      rw [hp] at q0 q1
      have hx : l[k]? = some (px, py) := by rw [← hp]; exact at_some (by rw [HN.out]; exact hkn)
      have htk : l.take (k + 1) = l.take k ++ [(px, py)] := by rw [List.take_add_one, hx]; rfl
      have hpre : l.take k ++ [(px, py)] <+: l := htk ▸ List.take_prefix _ _
      have hka := nw_alloc wr (.cells #[.int .i64 px, .int .i64 py] 32)
      have hj2 := hJ.abide _ _ _ _ hj hka (fun _ e => e.elim)
      have hs2 : SrcN (wr.alloc (.cells #[.int .i64 px, .int .i64 py] 32)) (some ⟨g, o, none⟩) n c l := Src.nw hs hka
      have hbb := Blk.new wr 32 #[.int .i64 px, .int .i64 py]
      obtain ⟨fn, tmps, assign, body, hy, hR⟩ := hY _ (px, py) _ hj2 hpre
      dsimp only [encP] at hy
      obtain ⟨c0, c1, _, _⟩ := hbb.two
      have HTK := Lib.hid htk
      clear htk hx hp hs4 hc hg
      gi_wp2
      refine hR.mono ?_
      rintro e W3 (⟨rfl, hJ3, hk3⟩ | ⟨rfl, hJx3⟩)
      · have hs3 : SrcN W3 (some ⟨g, o, none⟩) n c l := Src.kp hs2 hk3.kp (fun g' hg' e hO => by
          obtain rfl : g = g' := by simpa [Value.ownBlock] using e
          exact hOS _ _ g hj2 hO (.inr ⟨by omega, rfl⟩))
        rw [← HTK.out] at hJ3
        gi_wp2
        go_roundw
        case rel => exact ⟨k + 1, by rw [← H4.out], by omega, hJ3, hs3⟩
        case measure => (have := H4.out; simp [intOf]; try omega)
      · gi_wp2
        refine bodyPost_ret (results_none rfl _ _ _) rfl ?_
        exact ⟨⟨_, rfl⟩, .inr ⟨_, hpre, hJx3⟩⟩
    · obtain rfl : k = n := by omega
      have i5 : ¬ ((k : Int) < (k : Int)) := by omega
      rw [List.take_of_length_le (by rw [HN.out]; exact Nat.le_refl _)] at hj
      gi_wp2
      go_end0
      exact ⟨⟨_, rfl⟩, .inl hj⟩
set_option maxRecDepth 100000 in
set_option maxHeartbeats 3200000 in
theorem appendSeq_any (B : Nat) (v : Value) (l : List (Int × Int)) (w : World) (hB : Blk w B 22 #[v]) (hv : SrcV w v l) (hl : l.length ≤ 1099511627776) :
    Calls Try.prog 62 #[.slice none 0 0, .func (.func 59) #[] #[.pointer (some ⟨B, 0, none⟩)]] w fun e w' => ∃ u, e = .returned u ∧ OwnVV w' w.heap.size u l ∧ Nw w w' := by
  have HLE := Lib.hid hl
  refine enter_marks Try.func62 rfl ?_
  simp only [Try.ntmps62, List.size_toArray, List.length_cons, List.length_nil, Nat.reduceAdd, Nat.reduceSub, Array.replicate_succ, Array.replicate_zero, List.push_toArray, List.append_toArray, List.nil_append, List.cons_append]
  have hb5 := Blk.new w 22 #[.slice none 0 0]
  have hk0 : Nw w (w.alloc (.cells #[.slice none 0 0] 22)) := (Kp.refl _ w).alloc _
  obtain ⟨C5, hC5⟩ : ∃ C5, w.heap.size = C5 := ⟨_, rfl⟩
  obtain ⟨w6, hw1⟩ : ∃ w1, w.alloc (.cells #[.slice none 0 0] 22) = w1 := ⟨_, rfl⟩
  have HC5 := Lib.hid hC5
  have HW1 := Lib.hid hw1
  rw [hw1] at hb5 hk0
  rw [hC5] at hb5
  have hB6 := hB.kp hk0 (fun e => e)
  have hv6 : SrcV w6 v l := hv.nw hk0
  have hit := values_it B v l w6 hB6 hv6 hl
  have hS0 : ∀ k, (k = B ∨ (0 < l.length ∧ v.ownBlock = some k)) → k < w.heap.size := fun k e => by
    rcases e with rfl | ⟨e1, e2⟩
    · exact hB.lt
    · obtain ⟨A, c, rfl⟩ := hv.shape
      obtain ⟨g, o, e, hlt, _⟩ := src_at (src_n hv rfl) e1
      rw [e] at e2
      obtain rfl : g = k := by simpa [Value.ownBlock] using e2
      exact hlt
  have hsz := hk0.size
  have HS := Lib.hid hS0
  have HIT := Lib.hid hit
  have HB5 := Lib.hid hb5
  have HN6 := Lib.hid hk0
  have hC5l := hb5.lt
  clear hit hb5 hB6 hv6 hB hv hC5 hw1 hS0 hk0 hl
  go_wp2_with fail
  rw [HW1.out, HC5.out]
  refine range_boxS 5 32 (fun x : Int × Int => #[.int .i64 x.1, .int .i64 x.2]) (by rfl) (enters_of Try.func59 (by kernel_rfl) rfl) _ HIT.out (fun k e => Nat.lt_of_lt_of_le (HS.out k e) hsz) (OwnC C5) (CollI w6 C5) (fun _ _ _ => False)
    (coll_own w6 C5) (fun s W k ⟨u, hc⟩ e e0 => ?own) (fun c => ⟨fun _ _ _ _ e => e.elim, fun _ _ _ _ e => e.elim, fun _ _ _ e => e.elim⟩) ⟨_, HB5.out, OwnVV.nil _ _, Kp.refl _ _⟩ ?assign ?body ?done ?stop
  case own =>
    have h1 := HS.out k e0
    have := HC5.out
    rcases e.of hc.box with rfl | e
    · omega
    · have := own_from hc.row k e
      omega
  case assign =>
    intro l' x W K hK
    simp only [encP, List.setIfInBounds_toArray, List.set_cons_succ, List.set_cons_zero] at hK ⊢
    gi_wp2
    exact hK
  case stop => exact fun _ _ _ _ _ _ e => e.elim
  case body =>
    rintro l' pre x b W ⟨v, hc⟩ hpre hB
    simp only [encP, List.setIfInBounds_toArray, List.set_cons_succ, List.set_cons_zero]
    obtain ⟨Av, cv, rfl⟩ := hc.row.src.shape
    obtain ⟨c7, f7⟩ := hc.box.one
    obtain ⟨x0, x1, _, _⟩ := hB.two
    have hpl : pre.length + 1 ≤ 1099511627776 := by have := hpre.length_le; simp at this; have := HLE.out; omega
    have hsz := hc.kp.size
    have hvC : (Value.slice Av pre.length cv).ownBlock ≠ some C5 := fun e => absurd (own_from hc.row C5 e) (by omega)
    gi_wp2_with (gi_at_builtin; refine wpIn_pushG rfl (.tmp 8) (.tmp 10) 22 32 2 16 (.agg #[.int .i64 0, .int .i64 0]) rfl Try.underlying22 infoP rfl (by omega) w6.heap.size pre.length _ (flat vC pre) [.int .i64 x.1, .int .i64 x.2] rfl hc.row rfl ?_ rfl ?_ ?_ hsz ?_; (intro u hu; simp at hu; rcases hu with rfl | rfl <;> rfl); omega; omega; intro v' W5 own5 gr5; have hb5 := hc.box.kp gr5.by_ hvC; (obtain ⟨d7, g7⟩ := hb5.one); (obtain ⟨A', c', rfl⟩ := (own_src own5).shape))
    exact ⟨(hc.next hC5l own5 gr5).2, _, (hc.next hC5l own5 gr5).1⟩
  case done =>
    intro D1 W1 hD1 ⟨v7, hc7⟩ hd1
    obtain ⟨c50, c51⟩ := hc7.box.one
    have hnw : Nw w W1 := HN6.out.own (hc7.kp) (fun k e => by have := HC5.out; omega)
    have hrow : OwnVV W1 w.heap.size v7 l := own_less hc7.row HN6.out.size
    have HR := Lib.hid hrow
    have HNW := Lib.hid hnw
    have hD1' : w.heap.size ≤ D1 := Nat.le_trans HN6.out.size hD1
    clear hc7 hnw hrow
    go_wp2_with fail
    refine leaves_marks (r := 4) rfl [D1] W1 (by simp) (by simpa using hd1) (fun W' hk => (⟨v7, rfl, HR.out.kp hk (fun g e e2 => ?_), HNW.out.own hk (fun k e => ?_)⟩ : ∃ u, Ending.returned v7 = Ending.returned u ∧ OwnVV W' w.heap.size u l ∧ Nw w W'))
    · obtain rfl : g = D1 := by simpa using e2
      exact own_no_mark HR.out e hd1
    · obtain rfl : k = D1 := by simpa using e
      exact hD1'
theorem own_holds {w : World} {B : Nat} {v : Value} {l : List (Int × Int)} (h : OwnVV w B v l) (h0 : 0 < l.length) : ∃ g cap, v = .slice (some ⟨g, 0, none⟩) l.length cap ∧ B ≤ g ∧ g < w.heap.size ∧ l.length ≤ cap ∧ cap ≤ maxLen ∧ RowV w g l := by
  have hs := h.src
  rcases h.2 with ⟨_, e⟩ | ⟨g, cap, cur, rfl, hb, hg, hnc, hcm, hcs, htake⟩
  · omega
  · refine ⟨g, cap, rfl, hb, (Array.getElem?_eq_some_iff.1 hg).1, hnc, hcm, fun i p hp => ?_⟩
    have hb2 : Blk w g 32 cur := hg
    obtain ⟨f1, f2⟩ := flatV_at l i p hp
    have a1 := hs.cell_at f1
    have a2 := hs.cell_at f2
    rw [Nat.zero_add] at a1 a2
    exact ⟨⟨a1, a2⟩, hb2.frozen _, hb2.frozen _⟩
theorem collect_any (B : Nat) (v : Value) (l : List (Int × Int)) (w : World) (hB : Blk w B 22 #[v]) (hv : SrcV w v l) (hl : l.length ≤ 1099511627776) :
    Calls Try.prog 57 #[.func (.func 59) #[] #[.pointer (some ⟨B, 0, none⟩)]] w fun e w' => ∃ u, e = .returned u ∧ OwnVV w' w.heap.size u l ∧ Nw w w' := by
  have ca := fun w1 (h : Nw w w1) => appendSeq_any B v l w1 (hB.kp h id) (hv.nw h) hl
  go_enter Try.func57, Try.ntmps57
  go_wp2_with (go_at_call 62; ((with_reducible refine (ca _ (by repeat (first | exact Kp.refl _ _ | refine Kp.alloc ?_ _ | refine Kp.drew ?_))).mono ?_); rintro e w5 ⟨u, rfl, hu, hk5⟩; (obtain ⟨A', c', rfl⟩ := hu.src.shape)))
  go_ret
  exact ⟨_, rfl, hu, hk5⟩
/-- SortedFunc over Values: the sorted list, in a row of its own -/
theorem sortedFunc_any (B : Nat) (v : Value) (l : List (Int × Int)) (w : World) (hB : Blk w B 22 #[v]) (hv : SrcV w v l) (hl : l.length ≤ 1099511627776) :
    Calls Try.prog 36 #[.func (.func 59) #[] #[.pointer (some ⟨B, 0, none⟩)], .func (.func 38) #[] #[]] w fun e w' => ∃ u, e = .returned u ∧ OwnL w w' u (sortV l) ∧ Nw w w' := by
  have ca := fun w1 (h : Nw w w1) => collect_any B v l w1 (hB.kp h id) (hv.nw h) hl
  go_enter Try.func36, Try.ntmps36
  go_wp2_with (go_at_call 57; ((with_reducible refine (ca _ (by repeat (first | exact Kp.refl _ _ | refine Kp.alloc ?_ _ | refine Kp.drew ?_))).mono ?_); rintro e w5 ⟨u, rfl, hu, hk5⟩; (obtain ⟨A', c', rfl⟩ := hu.src.shape)))
  rcases Nat.eq_zero_or_pos l.length with h0 | h0
  · obtain rfl : l = [] := List.length_eq_zero_iff.1 h0
    have hcm : c' ≤ maxLen := (src_max (src_n hu.src rfl)).2.2
    refine Calls.mono (AnyF.slices_SortFunc_none Try.sortVec A' c' (.func (.func 38) #[] #[]) w5) ?_
    rintro e w6 ⟨rfl, rfl⟩
    go_wp2_with fail
    go_ret
    exact ⟨_, rfl, .inr ⟨by unfold sortV; simp, A', c', rfl, hcm⟩, hk5⟩
  · obtain ⟨g, cap, e, hg, hgl, hnc, hcm, hrow⟩ := own_holds hu h0
    simp only [Value.slice.injEq, true_and] at e
    obtain ⟨rfl, rfl⟩ := e
    refine Calls.mono (sort_any g c' l w5 hrow.holds hgl hl) ?_
    rintro e w6 ⟨rfl, hk6, hH6⟩
    go_wp2_with fail
    go_ret
    refine ⟨_, rfl, .inl ⟨g, c', ?_, hg, Nat.lt_of_lt_of_le hgl hk6.size, by rw [sortV_len]; exact hnc, hcm, RowV.of_holds hH6⟩, hk5.own hk6 (fun k e => by rw [e]; exact hg)⟩
    rw [sortV_len]
    rfl

end Go.Proofs.Ythbgapcplgigoaa.W
