/-
  A store of a whole value into a block that is known whole, as a step of a region that draws its order. No condition.
-/
import Derived.Test.YtahamffngmdjfaaVCo
import Derived.Deep.MidRow
import Derived.Deep.RegionHeld3
namespace Go.Proofs.Ytahamffngmdjfaa.W
open Go.RowKit Go.Proofs.Ytahamffngmdjfaa.V

def setAll (cs : Array Value) : Nat → List Value → Array Value
  | _, [] => cs
  | i, v :: vs => setAll (cs.setIfInBounds i v) (i + 1) vs
theorem setAll_size : ∀ (vs : List Value) (i : Nat) (cs : Array Value), (setAll cs i vs).size = cs.size
  | [], _, _ => rfl
  | v :: vs, i, cs => by
    show (setAll (cs.setIfInBounds i v) (i + 1) vs).size = _
    rw [setAll_size vs, Array.size_setIfInBounds]
theorem setAll_at : ∀ (vs : List Value) (i : Nat) (cs : Array Value) (j : Nat), i + vs.length ≤ cs.size → (setAll cs i vs)[j]? = if i ≤ j ∧ j < i + vs.length then vs[j - i]? else cs[j]?
  | [], i, cs, j, _ => by
    rw [if_neg (by rintro ⟨h1, h2⟩; simp only [List.length_nil] at h2; omega)]
    rfl
  | v :: vs, i, cs, j, h => by
    show (setAll (cs.setIfInBounds i v) (i + 1) vs)[j]? = _
    simp only [List.length_cons] at h ⊢
    rw [setAll_at vs (i + 1) _ j (by rw [Array.size_setIfInBounds]; omega), Array.getElem?_setIfInBounds]
    by_cases h1 : j = i
    · subst h1
      rw [if_neg (by omega), if_pos (by omega), if_pos (by omega), Nat.sub_self, if_pos (by omega)]
      rfl
    · by_cases h2 : i + 1 ≤ j ∧ j < i + 1 + vs.length
      · rw [if_pos h2, if_pos (by omega), show j - i = (j - (i + 1)) + 1 by omega]
        rfl
      · rw [if_neg h2, if_neg (by omega), if_neg (by omega)]
theorem setAll_all {cs cells : Array Value} (h : cs.size = cells.size) : setAll cs 0 cells.toList = cells := by
  apply Array.ext_getElem?
  intro j
  rw [setAll_at _ _ _ _ (by simp; omega)]
  split
  · rw [Nat.sub_zero, Array.getElem?_toList]
  · rename_i hj
    rw [Array.getElem?_eq_none (by simp at hj; omega), Array.getElem?_eq_none (by simp at hj; omega)]
theorem blk_sets {g : Nat} {t : TypeId} : ∀ (vs : List Value) (i : Nat) (cs : Array Value) (w : World), Blk w g t cs → Blk (w.setCells g i vs) g t (setAll cs i vs)
  | [], _, _, _, h => h
  | v :: vs, i, cs, w, h => blk_sets vs (i + 1) (cs.setIfInBounds i v) (w.setCell ⟨g, i, none⟩ v) (h.set_ i v)
section
variable {w : World} {ops : Array Oper} {o : Oper} {a : Act} {K : Act → World → Prop} {Q : Exit → Act → World → Prop} {E : Prop}
theorem step_store (hgd : o.guard = none) (ty : TypeId) (x y : Operand) (ho : o.op = .store ty x y) (b : Nat) (t : TypeId) (cs0 cells : Array Value) (hx : a.eval x = .pointer (some ⟨b, 0, none⟩)) (hy : a.eval y = .agg cells)
    (hb : Blk w b t cs0) (hsz : cs0.size = cells.size) (hi : (Try.prog.info? ty).map (·.size) = some cells.size) (h1 : cells.all (·.oneCell') = true)
    (h : ∀ w', Blk w' b t cells → Kp (fun k => k = b) w w' → K (a.put o.dst undef) w') : if Region.wanted o (yielded ops a.tmps) = true then Oper.wp Try.prog o a w K Q else E := by
  have hw : Region.wanted o (yielded ops a.tmps) = true := by simp [Region.wanted, hgd]
  rw [if_pos hw]
  refine wp_store_mid ty x y ho b 0 cells hx hy (fun j hj => ⟨?_, ?_⟩) hi h1 (h _ ?_ (setCells_kp b _ 0 w))
  · rw [Nat.zero_add, hb.cell j, Array.getElem?_eq_getElem (by omega)]
    rfl
  · rw [Nat.zero_add]
    exact hb.frozen j
  · have hh := blk_sets cells.toList 0 cs0 w hb
    rw [setAll_all hsz] at hh
    exact hh
/-- what a store into a block of the region's own leaves -/
theorem own_store {w2 u w' : World} {b : Nat} {t : TypeId} {cells : Array Value} (hu : Nw w2 u) (hb : w2.heap.size ≤ b) (h1 : Blk w' b t cells) (h2 : Kp (fun k => k = b) u w') : ∃ g, Value.pointer (some ⟨b, 0, none⟩) = .pointer (some ⟨g, 0, none⟩) ∧ Blk w' g t cells ∧ Nw w2 w' :=
  ⟨b, rfl, h1, hu.trans h2 fun i hi e => absurd hi (by omega)⟩
end
end Go.Proofs.Ytahamffngmdjfaa.W
