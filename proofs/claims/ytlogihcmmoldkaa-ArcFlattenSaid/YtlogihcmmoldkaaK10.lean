/-
  vec: two laws for Compact's inner loop: clear of a row of vectors, unequal vectors. No condition.
  vec: Compact of any list in a row that the call may turn: it returns the list rid of equal neighbours. Condition: the list is not longer than a slice may be.
  vec: Sorted of any list: it returns the list in ascending order, each vector once. Condition: the list is not longer than a slice may be.
  ring: a row of vectors of the call's own: what is stored into it. No condition.
-/
import Derived.Test.YtlogihcmmoldkaaK09
import Derived.Test.YtlogihcmmoldkaaK08
namespace Go.Proofs.Ytlogihcmmoldkaa.W
open Go.RowKit Go.Proofs.Ytlogihcmmoldkaa.V

theorem neq_vec (x1 x2 y1 y2 : Int) (w : World) : (binOp .neq 23 (.agg #[.int .i64 x1, .int .i64 x2]) (.agg #[.int .i64 y1, .int .i64 y2])).run Try.prog w = .ok (.bool (!(x1 == y1 && x2 == y2))) w := by
  have u3 := Try.underlying3
  have a3 := Try.isAgg3
  have z3 := Try.sizeOf3
  have hS : Try.prog.underlying 23 = some (.struct (Try.prog.fieldsOf 23)) := by kernel_rfl
  have hp : Try.prog.stoodInHeld 23 = false := by kernel_rfl
  rw [run_neq_struct, show (10000 : Nat) = 9999 + 1 from rfl, run_equalIn_agg w 9999 23 _ _ hS hp]
  simp only [Program.fieldsOf, Try.underlying23]
  go_simp
  by_cases h1 : x1 = y1 <;> by_cases h2 : x2 = y2 <;> simp [h1, h2]
theorem RowV.some_ {w : World} {g : Nat} {l : List (Int × Int)} (h : RowV w g l) {i : Nat} (hi : i < l.length * 2) : (w.cell? ⟨g, i, none⟩).isSome = true ∧ w.frozen? ⟨g, i, none⟩ = false := by
  have hq : i / 2 < l.length := by omega
  obtain ⟨⟨a, b⟩, c, d⟩ := h (i / 2) _ (List.getElem?_eq_getElem hq)
  rcases Nat.mod_two_eq_zero_or_one i with e | e
  · rw [show i / 2 * 2 = i by omega] at a c
    exact ⟨by rw [a]; rfl, c⟩
  · rw [show i / 2 * 2 + 1 = i by omega] at b d
    exact ⟨by rw [b]; rfl, d⟩
/-- what lies ahead of the cells that are laid reads as it did -/
theorem src_ahead {w : World} {g m cap f : Nat} {l : List (Int × Int)} {vs : List Value} (h : SrcV w (.slice (some ⟨g, 0, none⟩) m cap) l) (hm : l.length = m) (hf : m * 2 ≤ f) : SrcV (w.setCells g f vs) (.slice (some ⟨g, 0, none⟩) m cap) l := by
  obtain ⟨hl, A, c, e, h1, h2, hc⟩ := h
  refine ⟨hl, A, c, e, h1, h2, fun hn => ?_⟩
  obtain ⟨g', o', rfl, hb, hcell⟩ := hc hn
  injection e with e1 e2 e3
  injection e1 with e1
  injection e1 with e4 e5
  subst e4 e5
  refine ⟨_, _, rfl, Nat.lt_of_lt_of_le hb (setCells_kp g vs f w).size, fun j u hu => ?_⟩
  have hj : j < l.length * 2 := by
    have := (List.getElem?_eq_some_iff.1 hu).1
    rw [flatV_len] at this
    exact this
  rw [World.cell?_setCells_out g vs f w _ (fun _ _ => .inl (by simp; omega))]
  exact hcell j u hu
section
variable {w : World} {ops : Array Oper} {rest : List Oper} {o : Oper} {a : Act} {Q : Exit → Act → World → Prop}
theorem wp_clear (hgd : o.guard = none) (s : Operand) (ho : o.op = .call { callee := .builtin .clear, args := #[s], argTypes := #[27] })
    (b f n c : Nat) (hs : a.eval s = .slice (some ⟨b, f, none⟩) n c) (hn : 0 < n) (hc : ∀ j, j < n * 2 → (w.cell? ⟨b, f + j, none⟩).isSome = true) (hf : ∀ j, j < n * 2 → w.frozen? ⟨b, f + j, none⟩ = false)
    (h : wpList Try.prog ops Q rest (a.put o.dst (.tuple #[])) (w.setCells b f (List.replicate (n * 2) (.int .i64 0)))) :
    wpList Try.prog ops Q (o :: rest) a w := by
  have hr := clear_vecs o.type b f n c w hn hc hf
  refine wpList_plain hgd fun K hK => ?_
  unfold Oper.wp execOp
  simp only [ho, resolve, invoke, builtin, Sem.run_bind, Sem.run_pure, Result.andThen_ok, List.map_toArray, List.map_cons, List.map_nil, hs, hr]
  exact hK _ _ h
end
end Go.Proofs.Ytlogihcmmoldkaa.W

namespace Go.Proofs.Ytlogihcmmoldkaa.W
open Go.RowKit Go.Proofs.Ytlogihcmmoldkaa.V

end Go.Proofs.Ytlogihcmmoldkaa.W

namespace Go.Proofs.Ytlogihcmmoldkaa.W
open Go.RowKit Go.Proofs.Ytlogihcmmoldkaa.V

theorem src_none (w : World) (A : Option Addr) (c : Nat) (hc : c ≤ maxLen) : SrcV w (.slice A 0 c) [] := ⟨rfl, A, c, rfl, Nat.zero_le _, hc, fun h => absurd h (Nat.lt_irrefl 0)⟩
theorem clone_none (A : Option Addr) (c : Nat) (w : World) : Calls Try.prog 44 #[.slice A 0 c] w fun e w' => ∃ A' c', e = .returned (.slice A' 0 c') ∧ c' ≤ maxLen ∧ Nw w w' := by
  cases A with
  | none =>
    refine Calls.mono (AnyE.slices_Clone_nil Try.cloneVec 0 c w) ?_
    rintro e w' ⟨rfl, rfl⟩
    exact ⟨none, 0, rfl, Nat.zero_le _, Kp.refl _ _⟩
  | some ad =>
    obtain ⟨i0, hi, hz, hs, hb⟩ := vec_info
    have hq : ∀ w : World, (binOp .eql 27 (.slice (some ad) 0 c) (.slice none 0 0)).run Try.prog w = .ok (.bool false) w := fun w => Lib.run_eql_slice_nil w _ _ (some ad) 0 c 0 0 Try.underlying27
    go_enter Try.func44, Try.ntmps44
    go_wp2
    go_ret
    exact ⟨_, _, rfl, Nat.zero_le _, nw_alloc _ _⟩

end Go.Proofs.Ytlogihcmmoldkaa.W

namespace Go.Proofs.Ytlogihcmmoldkaa.W
open Go.RowKit Go.Proofs.Ytlogihcmmoldkaa.V Go.Proofs.Ytlogihcmmoldkaa.G

/-- a slice of a list in a row that has been made since w0, whose cells may be stored into; or one that is empty -/
def OwnL (w0 w : World) (v : Value) (l : List (Int × Int)) : Prop :=
  (∃ k cap, v = .slice (some ⟨k, 0, none⟩) l.length cap ∧ w0.heap.size ≤ k ∧ k < w.heap.size ∧ l.length ≤ cap ∧ cap ≤ maxLen ∧ RowV w k l) ∨ (l = [] ∧ ∃ A c, v = .slice A 0 c ∧ c ≤ maxLen)
theorem OwnL.src {w0 w : World} {v : Value} {l : List (Int × Int)} (h : OwnL w0 w v l) : SrcV w v l := by
  rcases h with ⟨k, cap, rfl, h1, h2, h3, h4, h5⟩ | ⟨rfl, A, c, rfl, h⟩
  · exact RowV.src h5 h2 (List.take_length ..) rfl h3 h4
  · exact src_none _ _ _ h
theorem RowV.nw {w w' : World} {g : Nat} {l : List (Int × Int)} (h : RowV w g l) (hg : g < w.heap.size) (hk : Nw w w') : RowV w' g l := by
  intro i p hp
  obtain ⟨⟨a, b⟩, c, d⟩ := h i p hp
  exact ⟨⟨(hk.cell (p := ⟨g, i * 2, none⟩) hg id).trans a, (hk.cell (p := ⟨g, i * 2 + 1, none⟩) hg id).trans b⟩, (hk.frozen (p := ⟨g, i * 2, none⟩) hg id).trans c, (hk.frozen (p := ⟨g, i * 2 + 1, none⟩) hg id).trans d⟩
theorem OwnL.nw {w0 w w' : World} {v : Value} {l : List (Int × Int)} (h : OwnL w0 w v l) (hk : Nw w w') : OwnL w0 w' v l := by
  rcases h with ⟨k, cap, rfl, h1, h2, h3, h4, h5⟩ | h
  · exact .inl ⟨k, cap, rfl, h1, Nat.lt_of_lt_of_le h2 hk.size, h3, h4, h5.nw h2 hk⟩
  · exact .inr h
theorem RowV.pre {w : World} {g : Nat} {l r : List (Int × Int)} (h : RowV w g (l ++ r)) : RowV w g l := by
  intro i p hp
  have hi := (List.getElem?_eq_some_iff.1 hp).1
  exact h i p (by rw [List.getElem?_append_left hi]; exact hp)
theorem RowV.sets {g : Nat} : ∀ (m : List (Int × Int)) (w : World) (l : List (Int × Int)) (i : Nat), RowV w g l → i + m.length ≤ l.length → RowV (w.setCells g (i * 2) (m.flatMap vC)) g (l.take i ++ m ++ l.drop (i + m.length))
  | [], w, l, i, h, _ => by
    simp only [List.append_nil, List.length_nil, Nat.add_zero, List.take_append_drop]
    exact h
  | x :: m, w, l, i, h, hm => by
    rw [List.length_cons] at hm
    have hi : i < l.length := by omega
    have h1 := h.set_ (k := i) hi x.1 x.2
    have h2 := RowV.sets m _ _ (i + 1) h1 (by rw [List.length_set]; omega)
    rw [List.flatMap_cons]
    show RowV (((w.setCell ⟨g, i * 2, none⟩ (.int .i64 x.1)).setCell ⟨g, i * 2 + 1, none⟩ (.int .i64 x.2)).setCells g (i * 2 + 1 + 1) (m.flatMap vC)) g _
    rw [show i * 2 + 1 + 1 = (i + 1) * 2 by omega]
    have e : (l.set i (x.1, x.2)).take (i + 1) ++ m ++ (l.set i (x.1, x.2)).drop (i + 1 + m.length) = l.take i ++ x :: m ++ l.drop (i + (x :: m).length) := by
      rw [List.take_add_one, List.getElem?_set_self hi, List.take_set_of_le (Nat.le_refl _), List.drop_set_of_lt (by omega), List.length_cons, show i + (m.length + 1) = i + 1 + m.length by omega]
      simp
    rw [← e]
    exact h2
theorem kp_sets (g f : Nat) (vs : List Value) (w : World) : Kp (fun i => i = g) w (w.setCells g f vs) := setCells_kp g vs f w
theorem RowV.holds {w : World} {g : Nat} {l : List (Int × Int)} (h : RowV w g l) : Sort.HoldsK vC 2 w g 0 l.toArray := by
  intro j hj
  rw [Sort.size_flatK] at hj
  have hj' : j < l.length * 2 := by simpa using hj
  rw [Sort.get_flatK _ _ _ _ hj]
  have hq : j / 2 < l.length := by omega
  obtain ⟨⟨a, b⟩, c, d⟩ := h (j / 2) _ (List.getElem?_eq_getElem hq)
  have hd : (l.toArray)[j / 2]! = l[j / 2]'hq := by simp [hq]
  rw [hd, Nat.zero_add]
  rcases Nat.mod_two_eq_zero_or_one j with e | e
  · rw [e]
    rw [show j / 2 * 2 = j by omega] at a c
    exact ⟨a, c⟩
  · rw [e]
    rw [show j / 2 * 2 + 1 = j by omega] at b d
    exact ⟨b, d⟩
end Go.Proofs.Ytlogihcmmoldkaa.W
