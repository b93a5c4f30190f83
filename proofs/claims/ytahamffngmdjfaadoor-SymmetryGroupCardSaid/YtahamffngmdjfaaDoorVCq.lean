/-
  vec: two laws for Compact's inner loop: clear of a row of vectors, unequal vectors. No condition.
-/
import Derived.Test.YtahamffngmdjfaaDoorVCo
import Derived.Test.YtahamffngmdjfaaDoorVM
namespace Go.Proofs.YtahamffngmdjfaaDoor.W
open Go.RowKit Go.Proofs.YtahamffngmdjfaaDoor.V

theorem neq_vec (x1 x2 y1 y2 : Int) (w : World) : (binOp .neq 23 (.agg #[.int .i64 x1, .int .i64 x2]) (.agg #[.int .i64 y1, .int .i64 y2])).run Tryd.prog w = .ok (.bool (!(x1 == y1 && x2 == y2))) w := by
  have u3 := Tryd.underlying3
  have a3 := Tryd.isAgg3
  have z3 := Tryd.sizeOf3
  have hS : Tryd.prog.underlying 23 = some (.struct (Tryd.prog.fieldsOf 23)) := by kernel_rfl
  have hp : Tryd.prog.stoodInHeld 23 = false := by kernel_rfl
  rw [run_neq_struct, show (10000 : Nat) = 9999 + 1 from rfl, run_equalIn_agg w 9999 23 _ _ hS hp]
  simp only [Program.fieldsOf, Tryd.underlying23]
  go_simp
  by_cases h1 : x1 = y1 <;> by_cases h2 : x2 = y2 <;> simp [h1, h2]
theorem RowV.some_ {w : World} {g : Nat} {l : List (Int × Int)} (h : RowV w g l) {i : Nat} (hi : i < l.length * 2) : (w.cell? ⟨g, i, none⟩).isSome = true ∧ w.frozen? ⟨g, i, none⟩ = false := by
  have hq : i / 2 < l.length := by omega
  obtain ⟨⟨a, b⟩, c, d⟩ := h (i / 2) _ (List.getElem?_eq_getElem hq)
  rcases Nat.mod_two_eq_zero_or_one i with e | e
  · rw [show i / 2 * 2 = i by omega] at a c
    exact ⟨by rw [a]; rfl, c⟩
  · rw [show i / 2 * 2 + 1 = i by omega] at b d
    exact ⟨by rw [b]; rfl, d⟩
/-- what lies ahead of the cells that are laid reads as it did -/
theorem src_ahead {w : World} {g m cap f : Nat} {l : List (Int × Int)} {vs : List Value} (h : SrcV w (.slice (some ⟨g, 0, none⟩) m cap) l) (hm : l.length = m) (hf : m * 2 ≤ f) : SrcV (w.setCells g f vs) (.slice (some ⟨g, 0, none⟩) m cap) l := by
  obtain ⟨hl, A, c, e, h1, h2, hc⟩ := h
  refine ⟨hl, A, c, e, h1, h2, fun hn => ?_⟩
  obtain ⟨g', o', rfl, hb, hcell⟩ := hc hn
  injection e with e1 e2 e3
  injection e1 with e1
  injection e1 with e4 e5
  subst e4 e5
  refine ⟨_, _, rfl, Nat.lt_of_lt_of_le hb (setCells_kp g vs f w).size, fun j u hu => ?_⟩
  have hj : j < l.length * 2 := by
    have := (List.getElem?_eq_some_iff.1 hu).1
    rw [flatV_len] at this
    exact this
  rw [World.cell?_setCells_out g vs f w _ (fun _ _ => .inl (by simp; omega))]
  exact hcell j u hu
section
variable {w : World} {ops : Array Oper} {rest : List Oper} {o : Oper} {a : Act} {Q : Exit → Act → World → Prop}
theorem wp_clear (hgd : o.guard = none) (s : Operand) (ho : o.op = .call { callee := .builtin .clear, args := #[s], argTypes := #[34] })
    (b f n c : Nat) (hs : a.eval s = .slice (some ⟨b, f, none⟩) n c) (hn : 0 < n) (hc : ∀ j, j < n * 2 → (w.cell? ⟨b, f + j, none⟩).isSome = true) (hf : ∀ j, j < n * 2 → w.frozen? ⟨b, f + j, none⟩ = false)
    (h : wpList Tryd.prog ops Q rest (a.put o.dst (.tuple #[])) (w.setCells b f (List.replicate (n * 2) (.int .i64 0)))) :
    wpList Tryd.prog ops Q (o :: rest) a w := by
  have hr := clear_vecs o.type b f n c w hn hc hf
  refine wpList_plain hgd fun K hK => ?_
  unfold Oper.wp execOp
  simp only [ho, resolve, invoke, builtin, Sem.run_bind, Sem.run_pure, Result.andThen_ok, List.map_toArray, List.map_cons, List.map_nil, hs, hr]
  exact hK _ _ h
end
end Go.Proofs.YtahamffngmdjfaaDoor.W
