/-
  Plain words on sealed byte strings, without any program: one changed byte is refused, what is opened was sealed. No condition. And a row of the call's own of which a byte is written.
-/
import Derived.Test.YtgiogocclkkkhaaDOpen
namespace Go.Proofs.Ytgiogocclkkkhaa.W
open Go.RowKit Go.Proofs.Ytgiogocclkkkhaa.Pl

theorem dgs_inj {b : Int} (hb : 0 < b) : ∀ (k : Nat) (n m : Int), 0 ≤ n → n < b ^ k → 0 ≤ m → m < b ^ k → dgs b k n = dgs b k m → n = m
  | 0, n, m, h0, h1, h2, h3, _ => by
    rw [Int.pow_zero] at h1 h3
    omega
  | k + 1, n, m, h0, h1, h2, h3, h => by
    unfold dgs at h
    obtain ⟨e1, e2⟩ := List.append_inj h (by rw [dgs_length, dgs_length])
    rw [Int.pow_succ] at h1 h3
    have e3 : n % b = m % b := by simpa using e2
    have e4 := dgs_inj hb k (n / b) (m / b) (Int.ediv_nonneg h0 (Int.le_of_lt hb)) (Int.ediv_lt_of_lt_mul hb h1) (Int.ediv_nonneg h2 (Int.le_of_lt hb)) (Int.ediv_lt_of_lt_mul hb h3) e1
    have e5 := Int.mul_ediv_add_emod n b
    have e6 := Int.mul_ediv_add_emod m b
    rw [e3, e4] at e5
    omega
theorem dgs8_inj {n m : Int} (hn : U64 n) (hm : U64 m) (h : dgs 256 8 n = dgs 256 8 m) : n = m := by
  have e : (256 : Int) ^ 8 = 18446744073709551616 := by decide
  exact dgs_inj (by decide) 8 n m hn.1 (by rw [e]; exact hn.2) hm.1 (by rw [e]; exact hm.2) h

theorem set_ne {l : List Int} {k : Nat} {x y : Int} (hx : l[k]? = some x) (hne : x ≠ y) : l.set k y ≠ l := by
  intro e
  obtain ⟨hlt, rfl⟩ := List.getElem?_eq_some_iff.1 hx
  have := congrArg (·[k]?) e
  simp [hlt] at this
  exact hne this.symm
theorem opn_changed {l : List Int} {k : Nat} {x y : Int} (hk : (sealL l)[k]? = some x) (hx : U64 x) (hy : U64 y) (hne : x ≠ y) : opnE ((sealL l).set k y) = 5 ∧ opnV ((sealL l).set k y) = [] := by
  unfold sealL at hk ⊢
  by_cases hkl : k < l.length
  · rw [List.set_append_left _ _ hkl]
    rw [List.getElem?_append_left hkl] at hk
    refine opn_bad (dgs_length _ _ _) fun e => ?_
    have := dgs8_inj (sum_u64 _ _ u64_1) (sum_u64 _ _ u64_1) e
    exact sum_change hk hx hy hne this.symm
  · rw [List.set_append_right _ _ (by omega)]
    rw [List.getElem?_append_right (by omega)] at hk
    exact opn_bad (by rw [List.length_set, dgs_length]) (set_ne hk hne)
theorem opn_seal (l : List Int) : opnE (sealL l) = 0 ∧ opnV (sealL l) = l := opn_good (dgs_length _ _ _) rfl
theorem seal_opn {l : List Int} (h : opnE l = 0) : sealL (opnV l) = l := by
  unfold opnV sealL
  rw [if_pos h]
  unfold opnE at h
  split at h
  · cases h
  · split at h
    · rename_i hq
      rw [← hq, List.take_append_drop]
    · cases h
theorem opn_by {l : List Int} (h : By l) : By (opnV l) := by
  unfold opnV
  split
  · exact fun x hx => h x (List.mem_of_mem_take hx)
  · exact By.nil
theorem opn_length (l : List Int) : (opnV l).length ≤ l.length := by
  unfold opnV
  split
  · rw [List.length_take]; omega
  · exact Nat.zero_le _

theorem OwnB.set_ {w : World} {B g n c : Nat} {l : List Int} (h : OwnB w B (.slice (some ⟨g, 0, none⟩) n c) l) (k : Nat) (x : Int) : OwnB (w.setCell ⟨g, k, none⟩ (.int .u8 x)) B (.slice (some ⟨g, 0, none⟩) n c) (l.set k x) := by
  obtain ⟨h1, h2⟩ := h
  refine ⟨by rw [bytes_length]; omega, ?_⟩
  rcases h2 with ⟨e, _⟩ | ⟨g', cap, cur, e, hb, hg, hcap, hm, hs, ht⟩
  · cases e
  · simp only [Value.slice.injEq, Option.some.injEq, Addr.mk.injEq] at e
    obtain ⟨⟨rfl, _, _⟩, rfl, rfl⟩ := e
    refine .inr ⟨g, c, cur.set! k (.int .u8 x), by rw [List.length_set], hb, ?_, by rw [List.length_set]; exact hcap, hm, by simpa using hs, ?_⟩
    · simp [World.setCell, Array.getElem?_modify, hg]
    · have e2 : bytes (l.set k x) = (bytes l).set k (.int .u8 x) := by unfold bytes; rw [List.map_set]
      rw [e2, ← ht, List.length_set]
      simp [List.take_set]
theorem OwnB.cell {w : World} {B g n c k : Nat} {l : List Int} {x : Int} (h : OwnB w B (.slice (some ⟨g, 0, none⟩) n c) l) (hx : l[k]? = some x) : w.cell? ⟨g, k, none⟩ = some (.int .u8 x) ∧ w.frozen? ⟨g, k, none⟩ = false := by
  obtain ⟨h1, h2⟩ := h
  rcases h2 with ⟨e, _⟩ | ⟨g', cap, cur, e, hb, hg, hcap, hm, hs, ht⟩
  · cases e
  · simp only [Value.slice.injEq, Option.some.injEq, Addr.mk.injEq] at e
    obtain ⟨⟨rfl, _, _⟩, rfl, rfl⟩ := e
    have hb2 : (bytes l)[k]? = some (.int .u8 x) := by unfold bytes; rw [List.getElem?_map, hx]; rfl
    have hk := (List.getElem?_eq_some_iff.1 hx).1
    rw [← ht, List.getElem?_take_of_lt (by omega)] at hb2
    constructor
    · simp [World.cell?, hg]
      simpa using hb2
    · simp [World.frozen?, hg]
theorem OwnB.form {w : World} {B : Nat} {v : Value} {l : List Int} (h : OwnB w B v l) (hl : 0 < l.length) : ∃ g c, v = .slice (some ⟨g, 0, none⟩) l.length c ∧ B ≤ g ∧ g < w.heap.size ∧ l.length ≤ c ∧ c ≤ maxLen := by
  obtain ⟨h1, h2⟩ := h
  rcases h2 with ⟨_, e⟩ | ⟨g', cap, cur, e, hb, hg, hcap, hm, hs, ht⟩
  · omega
  · exact ⟨g', cap, e, hb, (Array.getElem?_eq_some_iff.1 hg).1, hcap, hm⟩
end Go.Proofs.Ytgiogocclkkkhaa.W
