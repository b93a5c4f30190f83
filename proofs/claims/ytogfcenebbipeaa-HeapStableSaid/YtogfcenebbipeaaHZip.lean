/-
  Plain mathematics of numbered elements: what a list of keys becomes, sorted; the marks of those that were seen. No condition.
-/
import Derived.Test.YtogfcenebbipeaaHPl
namespace Go.Proofs.Ytogfcenebbipeaa.Pl

def zipN : List (Int × Int) → Nat → List Ent
  | [], _ => []
  | x :: l, p => (x, p) :: zipN l (p + 1)
theorem allQ_perm (rk : Int → Int) : ∀ (l : List (Int × Int)) (p : Nat) (q : List Ent), (allQ rk l p q).Perm (zipN l p ++ q)
  | [], p, q => List.Perm.refl _
  | x :: l, p, q => by
    rw [allQ]
    refine (allQ_perm rk l (p + 1) _).trans ?_
    rw [zipN, List.cons_append]
    exact ((ins_perm rk (x, p) q).append_left _).trans List.perm_middle
theorem zipN_snd : ∀ (l : List (Int × Int)) (p : Nat), (zipN l p).map (·.2) = List.range' p l.length
  | [], p => rfl
  | x :: l, p => by
    rw [zipN, List.map_cons, zipN_snd l (p + 1), List.length_cons, List.range'_succ]
theorem zipN_mem : ∀ {l : List (Int × Int)} {p : Nat} {y : Ent}, y ∈ zipN l p → ∃ i, l[i]? = some y.1 ∧ y.2 = p + i
  | [], p, y, h => by cases h
  | x :: l, p, y, h => by
    rw [zipN] at h
    rcases List.mem_cons.1 h with rfl | h
    · exact ⟨0, rfl, rfl⟩
    · obtain ⟨i, h1, h2⟩ := zipN_mem h
      exact ⟨i + 1, by simpa using h1, by omega⟩

/-- keys with their places as tags -/
def its : List Int → Nat → List (Int × Int)
  | [], _ => []
  | k :: l, p => (k, (p : Int)) :: its l (p + 1)
theorem its_length : ∀ (l : List Int) (p : Nat), (its l p).length = l.length
  | [], p => rfl
  | k :: l, p => by rw [its, List.length_cons, List.length_cons, its_length l]
theorem its_at : ∀ {l : List Int} {p i : Nat} {x : Int × Int}, (its l p)[i]? = some x → l[i]? = some x.1 ∧ x.2 = ((p + i : Nat) : Int)
  | [], p, i, x, h => by simp [its] at h
  | k :: l, p, 0, x, h => by
    simp [its] at h
    subst h
    exact ⟨rfl, rfl⟩
  | k :: l, p, i + 1, x, h => by
    rw [its] at h
    obtain ⟨h1, h2⟩ := its_at (l := l) (p := p + 1) (i := i) (by simpa using h)
    exact ⟨by simpa using h1, by rw [h2]; congr 1; omega⟩
theorem its_snoc (k : Int) : ∀ (l : List Int) (p : Nat), its (l ++ [k]) p = its l p ++ [(k, ((p + l.length : Nat) : Int))]
  | [], p => rfl
  | y :: l, p => by
    rw [List.cons_append, its, its_snoc k l (p + 1), its, List.cons_append, List.length_cons]
    have e : p + 1 + l.length = p + (l.length + 1) := by omega
    rw [e]

/-- what a heap of keys holds -/
structure Keyed (l : List Int) (q : List Ent) : Prop where
  len : q.length = l.length
  good : GoodQ (fun k => k) q l.length
  at_ : ∀ {j : Nat} {y : Ent}, q[j]? = some y → y.1.2 = (y.2 : Int) ∧ l[y.2]? = some y.1.1
  nodup : (q.map (·.2)).Nodup
theorem keyed (l : List Int) : Keyed l (allQ (fun k => k) (its l 0) 0 []) := by
  have hp := allQ_perm (fun k => k) (its l 0) 0 []
  rw [List.append_nil] at hp
  refine ⟨?_, ?_, fun {j y} h => ?_, ?_⟩
  · rw [allQ_length, its_length]; simp
  · have := allQ_good (rk := fun k => k) (its l 0) (GoodQ.nil (fun k => k) 0)
    rw [its_length, Nat.zero_add] at this
    exact this
  · have hm : y ∈ zipN (its l 0) 0 := hp.mem_iff.1 (List.mem_of_getElem? h)
    obtain ⟨i, h1, h2⟩ := zipN_mem hm
    obtain ⟨h3, h4⟩ := its_at h1
    have e : y.2 = i := by omega
    rw [e]
    exact ⟨by rw [h4]; simp, h3⟩
  · have h2 := (hp.map (·.2)).nodup_iff.2 (by rw [zipN_snd]; exact List.nodup_range')
    exact h2
theorem Keyed.next {l : List Int} {q : List Ent} (h : Keyed l q) {j : Nat} {x y : Ent} (hx : q[j]? = some x) (hy : q[j + 1]? = some y) : x.1.1 ≤ y.1.1 ∧ (x.1.1 = y.1.1 → x.1.2 < y.1.2) := by
  have hj := (List.getElem?_eq_some_iff.1 hy).1
  have e1 := (List.getElem?_eq_some_iff.1 hx).2
  have e2 := (List.getElem?_eq_some_iff.1 hy).2
  have := List.pairwise_iff_getElem.1 h.good.1 j (j + 1) (by omega) hj (by omega)
  rw [e1, e2] at this
  have t1 := (h.at_ hx).1
  have t2 := (h.at_ hy).1
  unfold lt at this
  simp only at this
  constructor
  · omega
  · intro e
    omega

/-- the marks of the first j elements -/
def seenL (n : Nat) (q : List Ent) (j : Nat) : List Bool := (List.range n).map fun t => decide (t ∈ (q.take j).map (·.2))
theorem seenL_zero (n : Nat) (q : List Ent) : seenL n q 0 = List.replicate n false := by
  unfold seenL
  simp only [List.take_zero, List.map_nil, List.not_mem_nil, decide_false]
  apply List.ext_getElem?
  intro i
  rw [List.getElem?_map, List.getElem?_replicate]
  rcases Nat.lt_or_ge i n with hi | hi
  · rw [List.getElem?_range hi, if_pos hi]; rfl
  · rw [List.getElem?_eq_none (by simp; exact hi), if_neg (by omega)]; rfl
theorem seenL_length (n : Nat) (q : List Ent) (j : Nat) : (seenL n q j).length = n := by simp [seenL]
theorem seenL_at {n : Nat} {q : List Ent} {j : Nat} {y : Ent} (hn : (q.map (·.2)).Nodup) (hy : q[j]? = some y) (ht : y.2 < n) : (seenL n q j)[y.2]? = some false := by
  have hj := (List.getElem?_eq_some_iff.1 hy).1
  have hnot : y.2 ∉ (q.take j).map (·.2) := by
    intro hm
    have e : q.map (·.2) = (q.take j).map (·.2) ++ (q.drop j).map (·.2) := by rw [← List.map_append, List.take_append_drop]
    rw [e] at hn
    have hd : y.2 ∈ (q.drop j).map (·.2) := by
      rw [List.drop_eq_getElem_cons hj]
      rw [List.getElem?_eq_getElem hj] at hy
      injection hy with hy
      rw [hy]
      exact List.mem_map.2 ⟨y, List.mem_cons_self, rfl⟩
    exact (List.nodup_append.1 hn).2.2 _ hm _ hd rfl
  unfold seenL
  rw [List.getElem?_map, List.getElem?_range ht]
  simp only [Option.map_some, Option.some.injEq, decide_eq_false_iff_not]
  exact hnot
theorem seenL_set {n : Nat} {q : List Ent} {j : Nat} {y : Ent} (hy : q[j]? = some y) : (seenL n q j).set y.2 true = seenL n q (j + 1) := by
  apply List.ext_getElem?
  intro t
  unfold seenL
  rw [List.getElem?_set, List.getElem?_map, List.getElem?_map]
  have hmem : ∀ t, t ∈ (q.take (j + 1)).map (·.2) ↔ t ∈ (q.take j).map (·.2) ∨ t = y.2 := by
    intro t
    rw [List.take_add_one, hy]
    simp
  rcases Nat.lt_or_ge t n with ht | ht
  · rw [List.getElem?_range ht]
    by_cases he : y.2 = t
    · subst he
      rw [if_pos rfl, if_pos (by simp; exact ht)]
      simp only [Option.map_some, Option.some.injEq]
      exact (decide_eq_true ((hmem _).2 (.inr rfl))).symm
    · rw [if_neg he]
      simp only [Option.map_some, Option.some.injEq]
      have := hmem t
      by_cases hm : t ∈ (q.take j).map (·.2)
      · rw [decide_eq_true hm, decide_eq_true (this.2 (.inl hm))]
      · rw [decide_eq_false hm, decide_eq_false (fun h => (this.1 h).elim hm (fun e => he e.symm))]
  · rw [List.getElem?_eq_none (by simp; exact ht)]
    by_cases he : y.2 = t
    · rw [if_pos he, if_neg (by simp; omega)]
      rfl
    · rw [if_neg he]
      rfl
end Go.Proofs.Ytogfcenebbipeaa.Pl
