/-
  vec: an append of a slice of vectors as a step of a region that draws its order; what a vector's cells are. No condition.
-/
import Derived.Test.YtgmojgeclljajaaVCr
import Derived.Test.YtgmojgeclljajaaVPu
namespace Go.Proofs.Ytgmojgeclljajaa.W
open Go.RowKit Go.Proofs.Ytgmojgeclljajaa.V

theorem elemVec : Try.prog.elem 36 = 23 := by kernel_rfl
theorem infoVec : (Try.prog.info? 23).map (fun i => (i.zero, i.size, i.bytes)) = some (some (.agg #[.int .i64 0, .int .i64 0]), 2, 16) := by kernel_rfl
section
variable {w : World} {ops : Array Oper} {o : Oper} {a : Act} {K : Act → World → Prop} {Q : Exit → Act → World → Prop} {E : Prop}
theorem step_appV (hgd : o.guard = none) (s x : Operand) (ho : o.op = .call { callee := .builtin .append, args := #[s, x], argTypes := #[36, 36] })
    (B n m : Nat) (v u : Value) (vs us : List Value) (hs : a.eval s = v) (hown : w.ownsRow B 23 2 v n vs) (hx : a.eval x = u) (hsrc : Src w 2 u m us) (hone : ∀ u ∈ us, u.oneCell' = true)
    (hlen : (n + m) * 16 ≤ 140737488355328) (hB : B ≤ w.heap.size)
    (h : ∀ v' w', w'.ownsRow B 23 2 v' (n + m) (vs ++ us) → Grew w w' v v' → K (a.put o.dst v') w') :
    if Region.wanted o (yielded ops a.tmps) = true then Oper.wp Try.prog o a w K Q else E := by
  have hw : Region.wanted o (yielded ops a.tmps) = true := by simp [Region.wanted, hgd]
  rw [if_pos hw]
  obtain ⟨v', w', hr, h1, h2⟩ := run_appG o.type 36 23 2 16 (.agg #[.int .i64 0, .int .i64 0]) Try.underlying36 infoVec rfl (by omega) B n m v u vs us hown hsrc hone hlen (by omega) hB
  unfold Oper.wp execOp
  simp only [ho, resolve, invoke, builtin, Sem.run_bind, Sem.run_pure, Result.andThen_ok, List.map_toArray, List.map_cons, List.map_nil, hs, hx, hr]
  exact h v' w' h1 h2
end
theorem take_one (l : List (Int × Int)) (k : Nat) : ∀ u ∈ (l.flatMap vC).take k, u.oneCell' = true := fun u hu => flatV_one l u (List.mem_of_mem_take hu)
theorem drop_one (l : List (Int × Int)) (k : Nat) : ∀ u ∈ (l.flatMap vC).drop k, u.oneCell' = true := fun u hu => flatV_one l u (List.mem_of_mem_drop hu)
theorem own_lit_at {base : Nat} (w : World) (n : Nat) (h : w.heap.size = n) (hb : base ≤ n) : (w.alloc (.cells #[] 23)).ownsRow base 23 2 (.slice (some ⟨n, 0, none⟩) 0 0) 0 [] := by
  subst h
  exact World.ownsRow_lit w #[] 0 hb (Nat.zero_le _) rfl
/-- a new slice of one vector -/
theorem src_one {w : World} {g : Nat} {x y : Int} (h : Blk w g 23 #[.int .i64 x, .int .i64 y]) : Src w 2 (.slice (some ⟨g, 0, none⟩) 1 1) 1 [.int .i64 x, .int .i64 y] := by
  refine ⟨rfl, _, _, rfl, Nat.le_refl _, by unfold maxLen; omega, fun _ => ⟨g, 0, rfl, h.lt, fun j u hu => ?_⟩⟩
  rw [Nat.zero_add, h.cell j, ← hu]
  exact List.getElem?_toArray
end Go.Proofs.Ytgmojgeclljajaa.W
