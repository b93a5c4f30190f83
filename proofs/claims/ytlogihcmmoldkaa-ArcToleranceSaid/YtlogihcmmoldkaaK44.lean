/-
  arc, plain: the points of a chain by their places: the ends, the neighbours, the numbers that the laws reckon. Conditions: as stated.
-/
import Derived.Test.YtlogihcmmoldkaaK02
namespace Go.Proofs.Ytlogihcmmoldkaa.A

theorem con_at {r : Pt → Pt → Prop} : ∀ {p : Pt} {l : List Pt}, Con r p l → ∀ (k : Nat) (a b : Pt), (p :: l)[k]? = some a → (p :: l)[k + 1]? = some b → r a b
  | p, [], _, k, a, b, _, h2 => by simp at h2
  | p, x :: l, hc, 0, a, b, h1, h2 => by
    simp only [List.getElem?_cons_zero, Option.some.injEq, Nat.zero_add, List.getElem?_cons_succ] at h1 h2
    subst h1 h2
    exact hc.1
  | p, x :: l, hc, k + 1, a, b, h1, h2 => by
    rw [List.getElem?_cons_succ] at h1 h2
    exact con_at hc.2 k a b h1 h2
theorem con_rev {r : Pt → Pt → Prop} {p : Pt} {l : List Pt} (hc : Con r p l) (k : Nat) (a b : Pt) (h1 : (p :: l).reverse[k]? = some a) (h2 : (p :: l).reverse[k + 1]? = some b) : r b a := by
  have hk : k + 1 < (p :: l).length := by
    have := (List.getElem?_eq_some_iff.1 h2).1
    rwa [List.length_reverse] at this
  rw [List.getElem?_reverse (by omega)] at h1 h2
  have e : (p :: l).length - 1 - k = (p :: l).length - 1 - (k + 1) + 1 := by omega
  rw [e] at h1
  exact con_at hc _ b a h2 h1
theorem con_every {r : Pt → Pt → Prop} {P : Pt → Prop} (h : ∀ a b, r a b → P b) : ∀ {p : Pt} {l : List Pt}, Con r p l → ∀ x ∈ l, P x
  | _, [], _, x, hx => by cases hx
  | p, a :: l, hc, x, hx => by
    rcases List.mem_cons.1 hx with e | hx
    · subst e; exact h _ _ hc.1
    · exact con_every h hc.2 x hx
/-- the relative chain of an arc from p to q, in its own direction -/
def relD (cw : Bool) (p q : Pt) (l : List Pt) : List Pt := if cw then (q :: l).reverse else p :: l
def relOk (cw : Bool) (R t : Int) (p q : Pt) (l : List Pt) : Prop := if cw then Ch R t q p l else Ch R t p q l
def relS (cw : Bool) (R t : Int) (a b : Pt) : Prop := if cw then Seg R t b a else Seg R t a b
structure RelF (cw : Bool) (R t : Int) (p q : Pt) (D : List Pt) : Prop where
  two : 2 ≤ D.length
  top : D.length ≤ 64032009
  fst : D[0]? = some p
  lst : D[D.length - 1]? = some q
  pts : ∀ x ∈ D, Dig R x ∧ Near R x
  seg : ∀ k a b, D[k]? = some a → D[k + 1]? = some b → relS cw R t a b
theorem ch_two {R t : Int} {p q : Pt} {l : List Pt} (h : Ch R t p q l) : 1 ≤ l.length ∧ (p :: l)[l.length]? = some q := by
  obtain ⟨m, e⟩ := ch_last h
  subst e
  rw [List.length_append, List.length_cons, List.length_nil]
  refine ⟨by omega, ?_⟩
  rw [← List.cons_append, List.getElem?_append_right (by simp)]
  simp
theorem rel_facts {cw : Bool} {R t : Int} {p q : Pt} {l : List Pt} (hR : 0 < R) (hR2 : R ≤ 4000000) (hp : nrm p = R) (hq : nrm q = R) (h : relOk cw R t p q l) : RelF cw R t p q (relD cw p q l) := by
  have all : ∀ {p q : Pt}, nrm p = R → nrm q = R → Ch R t p q l → ∀ x ∈ p :: l, Dig R x ∧ Near R x := fun {p q} hp hq h x hx => by
    rcases List.mem_cons.1 hx with e | hx
    · subst e; exact ⟨dig_own hp, near_own hp hR⟩
    · exact con_every (r := Seg R t) (P := fun b => Dig R b ∧ Near R b) (fun a b g => ⟨g.1.2.1, g.1.2.2.2.1⟩) (ch_con hR h hp hq) x hx
  cases cw with
  | false =>
    have h' : Ch R t p q l := h
    have a := ch_two h'
    have b := ch_max hR hR2 h' hp hq
    refine ⟨by show 2 ≤ (p :: l).length; simp; omega, by show (p :: l).length ≤ _; simp; omega, rfl, ?_, all hp hq h', fun k x y h1 h2 => con_at (ch_con hR h' hp hq) k x y h1 h2⟩
    show (p :: l)[(p :: l).length - 1]? = some q
    rw [show (p :: l).length - 1 = l.length by simp]
    exact a.2
  | true =>
    have h' : Ch R t q p l := h
    have a := ch_two h'
    have b := ch_max hR hR2 h' hq hp
    refine ⟨by show 2 ≤ (q :: l).reverse.length; simp; omega, by show (q :: l).reverse.length ≤ _; simp; omega, ?_, ?_, fun x hx => all hq hp h' x (List.mem_reverse.1 hx), fun k x y h1 h2 => con_rev (ch_con hR h' hq hp) k x y h1 h2⟩
    · show (q :: l).reverse[0]? = some p
      rw [List.getElem?_reverse (by simp), show (q :: l).length - 1 - 0 = l.length by simp]
      exact a.2
    · show (q :: l).reverse[(q :: l).reverse.length - 1]? = some q
      rw [List.getElem?_reverse (by simp), List.length_reverse, show (q :: l).length - 1 - ((q :: l).length - 1) = 0 by omega]
      rfl
theorem relS_arcs {cw : Bool} {R t : Int} {a b : Pt} (h : relS cw R t a b) : 0 < (if cw then -crs0 a b else crs0 a b) ∧ 0 ≤ dot0 a b := by
  cases cw with
  | false => have g : Seg R t a b := h; exact ⟨g.1.2.2.2.2.1, g.1.2.2.2.2.2⟩
  | true =>
    have g : Seg R t b a := h
    have e : crs0 a b = -crs0 b a := by unfold crs0; grind
    have e2 : dot0 a b = dot0 b a := by unfold dot0; grind
    refine ⟨?_, by rw [e2]; exact g.1.2.2.2.2.2⟩
    rw [if_pos rfl, e]
    have := g.1.2.2.2.2.1
    omega
theorem relS_ne {cw : Bool} {R t : Int} {a b : Pt} (h : relS cw R t a b) : a ≠ b := fun e => by
  subst e
  have k := (relS_arcs h).1
  have z : crs0 a a = 0 := by unfold crs0; grind
  rw [z] at k
  cases cw <;> simp at k
/-- the distance of a point's numbers -/
theorem near_words {R : Int} {p : Pt} (hR : 0 < R) (hR2 : R ≤ 4000000) (hd : Dig R p) (hn : Near R p) : 0 ≤ nrm p ∧ nrm p ≤ 8000000 ∧ 0 ≤ nrm p + R - 1 ∧ (nrm p + R - 1) * (nrm p + R - 1) < 4 * nrm p * R ∧ 4 * nrm p * R ≤ 200000000000000 := by
  have l := near_law hR hn
  have b := dig_2000 hR2 hd
  have n0 := nrm_nn p
  have x1 := le_sq (ab_nn p.1) (show ab p.1 ≤ 2000 by unfold ab; split <;> omega)
  have x2 := le_sq (ab_nn p.2) (show ab p.2 ≤ 2000 by unfold ab; split <;> omega)
  rw [ab_sq] at x1 x2
  have u : nrm p ≤ 8000000 := by unfold nrm dot0; omega
  have m := Int.mul_le_mul u hR2 (by omega) (by omega)
  have e : 4 * nrm p * R = 4 * (nrm p * R) := Int.mul_assoc _ _ _
  exact ⟨n0, u, l.1, l.2, by omega⟩
end Go.Proofs.Ytlogihcmmoldkaa.A
