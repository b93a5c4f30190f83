/-
  vec: Compact of any list in a row that the call may turn: it returns the list rid of equal neighbours. Condition: the list is not longer than a slice may be.
  vec: Sorted of any list: it returns the list in ascending order, each vector once. Condition: the list is not longer than a slice may be.
  ring: a row of vectors of the call's own: what is stored into it. No condition.
  ring: the library's functions on a row of the call's own: Clone, Reverse, clear. Condition: the list is not longer than 2^40.
-/
import Derived.Test.YthifljljaejfmaaJ25
import Derived.Test.YthifljljaejfmaaJ23
import Derived.Test.YthifljljaejfmaaLayR
namespace Go.Proofs.Ythifljljaejfmaa.W
open Go.RowKit Go.Proofs.Ythifljljaejfmaa.V

end Go.Proofs.Ythifljljaejfmaa.W

namespace Go.Proofs.Ythifljljaejfmaa.W
open Go.RowKit Go.Proofs.Ythifljljaejfmaa.V

theorem src_none (w : World) (A : Option Addr) (c : Nat) (hc : c ≤ maxLen) : SrcV w (.slice A 0 c) [] := ⟨rfl, A, c, rfl, Nat.zero_le _, hc, fun h => absurd h (Nat.lt_irrefl 0)⟩
theorem clone_none (A : Option Addr) (c : Nat) (w : World) : Calls Try.prog 31 #[.slice A 0 c] w fun e w' => ∃ A' c', e = .returned (.slice A' 0 c') ∧ c' ≤ maxLen ∧ Nw w w' := by
  cases A with
  | none =>
    refine Calls.mono (AnyE.slices_Clone_nil Try.cloneVec 0 c w) ?_
    rintro e w' ⟨rfl, rfl⟩
    exact ⟨none, 0, rfl, Nat.zero_le _, Kp.refl _ _⟩
  | some ad =>
    obtain ⟨i0, hi, hz, hs, hb⟩ := vec_info
    have hq : ∀ w : World, (binOp .eql 22 (.slice (some ad) 0 c) (.slice none 0 0)).run Try.prog w = .ok (.bool false) w := fun w => Lib.run_eql_slice_nil w _ _ (some ad) 0 c 0 0 Try.underlying22
    go_enter Try.func31, Try.ntmps31
    go_wp2
    go_ret
    exact ⟨_, _, rfl, Nat.zero_le _, nw_alloc _ _⟩

end Go.Proofs.Ythifljljaejfmaa.W

namespace Go.Proofs.Ythifljljaejfmaa.W
open Go.RowKit Go.Proofs.Ythifljljaejfmaa.V Go.Proofs.Ythifljljaejfmaa.G

/-- a slice of a list in a row that has been made since w0, whose cells may be stored into; or one that is empty -/
def OwnL (w0 w : World) (v : Value) (l : List (Int × Int)) : Prop :=
  (∃ k cap, v = .slice (some ⟨k, 0, none⟩) l.length cap ∧ w0.heap.size ≤ k ∧ k < w.heap.size ∧ l.length ≤ cap ∧ cap ≤ maxLen ∧ RowV w k l) ∨ (l = [] ∧ ∃ A c, v = .slice A 0 c ∧ c ≤ maxLen)
theorem OwnL.src {w0 w : World} {v : Value} {l : List (Int × Int)} (h : OwnL w0 w v l) : SrcV w v l := by
  rcases h with ⟨k, cap, rfl, h1, h2, h3, h4, h5⟩ | ⟨rfl, A, c, rfl, h⟩
  · exact RowV.src h5 h2 (List.take_length ..) rfl h3 h4
  · exact src_none _ _ _ h
theorem RowV.nw {w w' : World} {g : Nat} {l : List (Int × Int)} (h : RowV w g l) (hg : g < w.heap.size) (hk : Nw w w') : RowV w' g l := by
  intro i p hp
  obtain ⟨⟨a, b⟩, c, d⟩ := h i p hp
  exact ⟨⟨(hk.cell (p := ⟨g, i * 2, none⟩) hg id).trans a, (hk.cell (p := ⟨g, i * 2 + 1, none⟩) hg id).trans b⟩, (hk.frozen (p := ⟨g, i * 2, none⟩) hg id).trans c, (hk.frozen (p := ⟨g, i * 2 + 1, none⟩) hg id).trans d⟩
theorem OwnL.nw {w0 w w' : World} {v : Value} {l : List (Int × Int)} (h : OwnL w0 w v l) (hk : Nw w w') : OwnL w0 w' v l := by
  rcases h with ⟨k, cap, rfl, h1, h2, h3, h4, h5⟩ | h
  · exact .inl ⟨k, cap, rfl, h1, Nat.lt_of_lt_of_le h2 hk.size, h3, h4, h5.nw h2 hk⟩
  · exact .inr h
theorem RowV.pre {w : World} {g : Nat} {l r : List (Int × Int)} (h : RowV w g (l ++ r)) : RowV w g l := by
  intro i p hp
  have hi := (List.getElem?_eq_some_iff.1 hp).1
  exact h i p (by rw [List.getElem?_append_left hi]; exact hp)
theorem RowV.sets {g : Nat} : ∀ (m : List (Int × Int)) (w : World) (l : List (Int × Int)) (i : Nat), RowV w g l → i + m.length ≤ l.length → RowV (w.setCells g (i * 2) (m.flatMap vC)) g (l.take i ++ m ++ l.drop (i + m.length))
  | [], w, l, i, h, _ => by
    simp only [List.append_nil, List.length_nil, Nat.add_zero, List.take_append_drop]
    exact h
  | x :: m, w, l, i, h, hm => by
    rw [List.length_cons] at hm
    have hi : i < l.length := by omega
    have h1 := h.set_ (k := i) hi x.1 x.2
    have h2 := RowV.sets m _ _ (i + 1) h1 (by rw [List.length_set]; omega)
    rw [List.flatMap_cons]
    show RowV (((w.setCell ⟨g, i * 2, none⟩ (.int .i64 x.1)).setCell ⟨g, i * 2 + 1, none⟩ (.int .i64 x.2)).setCells g (i * 2 + 1 + 1) (m.flatMap vC)) g _
    rw [show i * 2 + 1 + 1 = (i + 1) * 2 by omega]
    have e : (l.set i (x.1, x.2)).take (i + 1) ++ m ++ (l.set i (x.1, x.2)).drop (i + 1 + m.length) = l.take i ++ x :: m ++ l.drop (i + (x :: m).length) := by
      rw [List.take_add_one, List.getElem?_set_self hi, List.take_set_of_le (Nat.le_refl _), List.drop_set_of_lt (by omega), List.length_cons, show i + (m.length + 1) = i + 1 + m.length by omega]
      simp
    rw [← e]
    exact h2
theorem kp_sets (g f : Nat) (vs : List Value) (w : World) : Kp (fun i => i = g) w (w.setCells g f vs) := setCells_kp g vs f w
theorem RowV.holds {w : World} {g : Nat} {l : List (Int × Int)} (h : RowV w g l) : Sort.HoldsK vC 2 w g 0 l.toArray := by
  intro j hj
  rw [Sort.size_flatK] at hj
  have hj' : j < l.length * 2 := by simpa using hj
  rw [Sort.get_flatK _ _ _ _ hj]
  have hq : j / 2 < l.length := by omega
  obtain ⟨⟨a, b⟩, c, d⟩ := h (j / 2) _ (List.getElem?_eq_getElem hq)
  have hd : (l.toArray)[j / 2]! = l[j / 2]'hq := by simp [hq]
  rw [hd, Nat.zero_add]
  rcases Nat.mod_two_eq_zero_or_one j with e | e
  · rw [e]
    rw [show j / 2 * 2 = j by omega] at a c
    exact ⟨a, c⟩
  · rw [e]
    rw [show j / 2 * 2 + 1 = j by omega] at b d
    exact ⟨b, d⟩
end Go.Proofs.Ythifljljaejfmaa.W

namespace Go.Proofs.Ythifljljaejfmaa.W
open Go.RowKit Go.Proofs.Ythifljljaejfmaa.V Go.Proofs.Ythifljljaejfmaa.G

theorem clear_ring (ty : TypeId) (b o n c : Nat) (w : World) (hn : 0 < n) (hc : ∀ j, j < n * 2 → (w.cell? ⟨b, o + j, none⟩).isSome = true) (hf : ∀ j, j < n * 2 → w.frozen? ⟨b, o + j, none⟩ = false) :
    (Builtin.clear_ #[23] ty #[.slice (some ⟨b, o, none⟩) n c]).run Try.prog w = .ok (.tuple #[]) (w.setCells b o (List.replicate (n * 2) (.int .i64 0))) := by
  have hv : ∀ w, (zeroValue 28).run Try.prog w = .ok (vV 0 0) w := fun w => by
    obtain ⟨i0, hi, hz, _⟩ := vec_info
    simp [zeroValue, typeInfo, hi, hz]
  have hzc : (Builtin.zeroCells (vV 0 0).cells n).toList = List.replicate (n * 2) (.int .i64 0) := by
    simp [Builtin.zeroCells, Value.cells]
    apply List.ext_getElem
    · simp
    · intro i h1 h2
      rcases Nat.mod_two_eq_zero_or_one i with e | e <;> simp [e]
  have hst := run_storeCells_cells (P := Try.prog) b o (List.replicate (n * 2) (.int .i64 0)) 0 w (by simpa using hc) (by simpa using hf) (by intro v hv'; rw [List.eq_of_mem_replicate hv']; rfl)
  simp only [Nat.add_zero] at hst
  obtain ⟨m, rfl⟩ : ∃ m, n = m + 1 := ⟨n - 1, by omega⟩
  simp [Builtin.clear_, run_underlying Try.underlying23, hv, hzc, hst]

section
variable {w : World} {ops : Array Oper} {rest : List Oper} {o : Oper} {a : Act} {Q : Exit → Act → World → Prop}
theorem wp_clear_ring (hgd : o.guard = none) (s : Operand) (ho : o.op = .call { callee := .builtin .clear, args := #[s], argTypes := #[23] })
    (b f n c : Nat) (hs : a.eval s = .slice (some ⟨b, f, none⟩) n c) (hn : 0 < n) (hc : ∀ j, j < n * 2 → (w.cell? ⟨b, f + j, none⟩).isSome = true) (hf : ∀ j, j < n * 2 → w.frozen? ⟨b, f + j, none⟩ = false)
    (h : wpList Try.prog ops Q rest (a.put o.dst (.tuple #[])) (w.setCells b f (List.replicate (n * 2) (.int .i64 0)))) :
    wpList Try.prog ops Q (o :: rest) a w := by
  have hr := clear_ring o.type b f n c w hn hc hf
  refine wpList_plain hgd fun K hK => ?_
  unfold Oper.wp execOp
  simp only [ho, resolve, invoke, builtin, Sem.run_bind, Sem.run_pure, Result.andThen_ok, List.map_toArray, List.map_cons, List.map_nil, hs, hr]
  exact hK _ _ h
end

theorem vclone_any (l : List (Int × Int)) (v : Value) (w : World) (hv : SrcV w v l) (hl : l.length ≤ 1099511627776) : Calls Try.prog 31 #[v] w fun e w' => ∃ v', e = .returned v' ∧ OwnL w w' v' l ∧ Nw w w' := by
  obtain ⟨A, c, rfl⟩ := hv.shape
  rcases Nat.eq_zero_or_pos l.length with h0 | h0
  · obtain rfl : l = [] := List.eq_nil_of_length_eq_zero h0
    refine (clone_none A c w).mono ?_
    rintro e w' ⟨A', c', rfl, hc, hk⟩
    exact ⟨_, rfl, .inr ⟨rfl, A', c', rfl, hc⟩, hk⟩
  · obtain ⟨_, A', c', e, _, _, hc⟩ := id hv
    injection e with e1 e2 e3
    subst e1
    obtain ⟨g, o, rfl, _⟩ := hc h0
    refine (clone_any l g o c w hv hl).mono ?_
    rintro e w' ⟨k, cap, h1, h2, h3, h4, rfl, hH, hk⟩
    exact ⟨_, rfl, .inl ⟨k, cap, rfl, h1, h4, h2, h3, RowV.of_holds hH⟩, hk⟩
theorem kp_put (w : World) (n g : Nat) (d : Array (Int × Int)) : Kp (fun b => b = g) w (Sort.putRowK vC 2 (Sort.ahead w n) g 0 d) := by
  refine ⟨rfl, rfl, rfl, ?_, fun i hi hne => ?_⟩
  · unfold Sort.putRowK
    rw [Sort.size_putRow]
    exact Nat.le_refl _
  · unfold Sort.putRowK
    show (w.heap.modify g _)[i]? = _
    rw [Array.getElem?_modify]
    simp [Ne.symm hne]
/-- slices.Reverse of a row of the call's own -/
theorem sReverse_any (l : List (Int × Int)) (v : Value) (w0 w : World) (hv : OwnL w0 w v l) (h0 : Nw w0 w) (hl : l.length ≤ 1099511627776) : Calls Try.prog 34 #[v] w fun e w' => e = .returned (.tuple #[]) ∧ OwnL w0 w' v l.reverse ∧ Nw w0 w' := by
  rcases hv with ⟨k, cap, rfl, h1, h2, h3, h4, h5⟩ | ⟨rfl, A, c, rfl, h⟩
  · have hH := h5.holds
    have hcon := AnyQ.slices_Reverse Try.revRing 2 Try.isAgg28 Try.sizeOf28 vC (fun _ => rfl) (fun x v hv => by simp [vC] at hv; rcases hv with rfl | rfl <;> rfl) k 0 cap l.toArray w hH (by simp; omega)
    refine Calls.mono hcon ?_
    rintro e w' ⟨rfl, n, rfl⟩
    have hk := kp_put w n k l.toArray.reverse
    have hn : Nw w0 (Sort.putRowK vC 2 (Sort.ahead w n) k 0 l.toArray.reverse) := Kp.own h0 hk fun i hi => by rw [hi]; exact h1
    refine ⟨rfl, .inl ⟨k, cap, by rw [List.length_reverse], h1, Nat.lt_of_lt_of_le h2 hk.size, by rw [List.length_reverse]; exact h3, h4, RowV.of_holds ?_⟩, hn⟩
    have := Sort.holdsK_putRowK (enc := vC) (k := 2) (Sort.ahead w n) k 0 l.toArray l.toArray.reverse hH (by simp)
    rw [List.reverse_toArray] at this ⊢
    exact this
  · refine Calls.mono (AnyQ.slices_Reverse_empty Try.revRing A c w) ?_
    rintro e w' ⟨rfl, rfl⟩
    exact ⟨rfl, .inr ⟨rfl, A, c, rfl, h⟩, h0⟩
end Go.Proofs.Ythifljljaejfmaa.W
