/-
  vec: Compact of any list in a row that the call may turn: it returns the list rid of equal neighbours. Condition: the list is not longer than a slice may be.
-/
import Derived.Test.YtahamffngmdjfaaVPt
import Derived.Test.YtahamffngmdjfaaVU
import Derived.Lib.SliceRun
namespace Go.Proofs.Ytahamffngmdjfaa.W
open Go.RowKit Go.Proofs.Ytahamffngmdjfaa.V

/-- a row of vectors, whose cells may be stored into -/
def RowV (w : World) (g : Nat) (l : List (Int × Int)) : Prop := ∀ i p, l[i]? = some p → (w.cell? ⟨g, i * 2, none⟩ = some (.int .i64 p.1) ∧ w.cell? ⟨g, i * 2 + 1, none⟩ = some (.int .i64 p.2)) ∧ w.frozen? ⟨g, i * 2, none⟩ = false ∧ w.frozen? ⟨g, i * 2 + 1, none⟩ = false
theorem frozen_set (w : World) (b o : Nat) (u : Value) (a : Addr) : (w.setCell ⟨b, o, none⟩ u).frozen? a = w.frozen? a := by
  have := World.frozen?_setCells b [u] o w a
  exact this
theorem RowV.of_holds {w : World} {g : Nat} {l : List (Int × Int)} (h : Sort.HoldsK vC 2 w g 0 l.toArray) : RowV w g l := by
  intro i p hp
  obtain ⟨hi, hv⟩ := List.getElem?_eq_some_iff.1 hp
  have h0 := Sort.HoldsK.cell h (i := i) (c := 0) (by simpa using hi) (by omega)
  have h1 := Sort.HoldsK.cell h (i := i) (c := 1) (by simpa using hi) (by omega)
  rw [show (l.toArray)[i]! = p by simp [hi, hv], Nat.zero_add] at h0 h1
  exact ⟨⟨h0.1, h1.1⟩, h0.2, h1.2⟩
theorem RowV.drew {w : World} {g : Nat} {l : List (Int × Int)} (h : RowV w g l) : RowV w.drew g l := h
theorem RowV.set_ {w : World} {g : Nat} {l : List (Int × Int)} (h : RowV w g l) {k : Nat} (hk : k < l.length) (x y : Int) : RowV ((w.setCell ⟨g, k * 2, none⟩ (.int .i64 x)).setCell ⟨g, k * 2 + 1, none⟩ (.int .i64 y)) g (l.set k (x, y)) := by
  intro i p hp
  obtain ⟨q, hq⟩ : ∃ q, l[k]? = some q := ⟨l[k], List.getElem?_eq_getElem hk⟩
  obtain ⟨⟨a, b⟩, c, d⟩ := h k q hq
  rw [frozen_set, frozen_set, frozen_set, frozen_set]
  by_cases hi : i = k
  · subst hi
    rw [List.getElem?_set_self hk] at hp
    injection hp with hp
    subst hp
    refine ⟨⟨?_, ?_⟩, c, d⟩
    · exact (World.cell?_setCell_other _ _ _ _ (by intro e; injection e with _ e; omega)).trans (World.cell?_setCell_same _ _ _ a)
    · exact World.cell?_setCell_same _ _ _ ((World.cell?_setCell_other _ _ _ _ (by intro e; injection e with _ e; omega)).trans b)
  · rw [List.getElem?_set_ne (by omega)] at hp
    obtain ⟨⟨a', b'⟩, c', d'⟩ := h i p hp
    refine ⟨⟨?_, ?_⟩, c', d'⟩
    · exact (World.cell?_setCell_other _ _ _ _ (by intro e; injection e with _ e; omega)).trans ((World.cell?_setCell_other _ _ _ _ (by intro e; injection e with _ e; omega)).trans a')
    · exact (World.cell?_setCell_other _ _ _ _ (by intro e; injection e with _ e; omega)).trans ((World.cell?_setCell_other _ _ _ _ (by intro e; injection e with _ e; omega)).trans b')
theorem RowV.src {w : World} {g cap m : Nat} {l d : List (Int × Int)} (h : RowV w g l) (hg : g < w.heap.size) (hd : l.take m = d) (hm : d.length = m) (hc : m ≤ cap) (hx : cap ≤ maxLen) : SrcV w (.slice (some ⟨g, 0, none⟩) m cap) d := by
  subst hm
  refine ⟨flatV_len d, _, _, rfl, hc, hx, fun _ => ⟨g, 0, rfl, hg, fun j u hu => ?_⟩⟩
  have hj : j < d.length * 2 := by
    obtain ⟨h, _⟩ := List.getElem?_eq_some_iff.1 hu
    rwa [flatV_len] at h
  have hq : j / 2 < d.length := by omega
  have hx : d[j / 2]? = some (d[j / 2]'hq) := List.getElem?_eq_getElem hq
  obtain ⟨f1, f2⟩ := flatV_at d (j / 2) _ hx
  have hl : l[j / 2]? = some (d[j / 2]'hq) := by
    rw [← hx, ← hd, List.getElem?_take_of_lt hq]
  obtain ⟨⟨a, b⟩, _⟩ := h _ _ hl
  rw [Nat.zero_add]
  rcases Nat.mod_two_eq_zero_or_one j with e | e
  · rw [show j / 2 * 2 = j by omega] at f1 a
    rw [a, ← f1, hu]
  · rw [show j / 2 * 2 + 1 = j by omega] at f2 b
    rw [b, ← f2, hu]
theorem setCells_kp (b : Nat) : ∀ (vs : List Value) (o : Nat) (w : World), Kp (fun i => i = b) w (w.setCells b o vs)
  | [], _, w => Kp.refl _ w
  | v :: r, o, w => (kp_set w b o v).tr (setCells_kp b r (o + 1) (w.setCell ⟨b, o, none⟩ v))
theorem clear_vecs (ty : TypeId) (b o n c : Nat) (w : World) (hn : 0 < n) (hc : ∀ j, j < n * 2 → (w.cell? ⟨b, o + j, none⟩).isSome = true) (hf : ∀ j, j < n * 2 → w.frozen? ⟨b, o + j, none⟩ = false) :
    (Builtin.clear_ #[36] ty #[.slice (some ⟨b, o, none⟩) n c]).run Try.prog w = .ok (.tuple #[]) (w.setCells b o (List.replicate (n * 2) (.int .i64 0))) := by
  have hv : ∀ w, (zeroValue 23).run Try.prog w = .ok (vV 0 0) w := fun w => by
    obtain ⟨i0, hi, hz, _⟩ := vec_info
    simp [zeroValue, typeInfo, hi, hz]
  have hzc : (Builtin.zeroCells (vV 0 0).cells n).toList = List.replicate (n * 2) (.int .i64 0) := by
    simp [Builtin.zeroCells, Value.cells]
    apply List.ext_getElem
    · simp
    · intro i h1 h2
      rcases Nat.mod_two_eq_zero_or_one i with e | e <;> simp [e]
  have hst := run_storeCells_cells (P := Try.prog) b o (List.replicate (n * 2) (.int .i64 0)) 0 w (by simpa using hc) (by simpa using hf) (by intro v hv'; rw [List.eq_of_mem_replicate hv']; rfl)
  simp only [Nat.add_zero] at hst
  obtain ⟨m, rfl⟩ : ∃ m, n = m + 1 := ⟨n - 1, by omega⟩
  simp [Builtin.clear_, run_underlying Try.underlying36, hv, hzc, hst]
end Go.Proofs.Ytahamffngmdjfaa.W
