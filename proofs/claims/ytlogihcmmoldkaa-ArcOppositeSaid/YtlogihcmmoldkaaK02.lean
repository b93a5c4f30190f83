/-
  arc, plain: the coordinates of a chain's points and how many points it has. Conditions: the squared radius is at most 4000000.
-/
import Derived.Test.YtlogihcmmoldkaaK01
namespace Go.Proofs.Ytlogihcmmoldkaa.A

theorem dig_2000 {R : Int} {p : Pt} (hR : R ≤ 4000000) (h : Dig R p) : (-2000 ≤ p.1 ∧ p.1 ≤ 2000) ∧ (-2000 ≤ p.2 ∧ p.2 ≤ 2000) := by
  have one : ∀ {X Y : Int}, DigQ R X Y → X ≤ 2000 := fun {X Y} h => by
    rcases loge 2000 X with k | k
    · have a := h.2.2.1
      have b := sqn (lo Y)
      have c := le_sq (a := 4001) (b := lo X) (by omega) (by have := lo_ge (X := 2000) (by omega) k; omega)
      omega
    · exact k
  exact ⟨ab_bound (one h), ab_bound (one (digQ_swap h))⟩
theorem arcs_diff {R : Int} {p q : Pt} (h : Arcs R p q) : 0 < nrm (p.1 - q.1, p.2 - q.2) := by
  have c := h.2.2.2.2.1
  have s1 := sqn (p.1 - q.1)
  have s2 := sqn (p.2 - q.2)
  unfold nrm dot0
  simp only
  rcases loge 0 ((p.1 - q.1) * (p.1 - q.1) + (p.2 - q.2) * (p.2 - q.2)) with k | k
  · exact k
  · exfalso
    have e1 : p.1 - q.1 = 0 := by have : (p.1 - q.1) * (p.1 - q.1) = 0 := by omega
                                  exact (Int.mul_eq_zero.1 this).elim id id
    have e2 : p.2 - q.2 = 0 := by have : (p.2 - q.2) * (p.2 - q.2) = 0 := by omega
                                  exact (Int.mul_eq_zero.1 this).elim id id
    unfold crs0 at c
    rw [show p.1 = q.1 by omega, show p.2 = q.2 by omega, Int.mul_comm] at c
    omega
theorem count_add {P Q S : Pt → Bool} : ∀ {l : List Pt}, (∀ w, P w = true → S w = true) → (∀ w, Q w = true → S w = true) → (∀ w, P w = true → Q w = true → False) → l.countP P + l.countP Q ≤ l.countP S
  | [], _, _, _ => by simp
  | a :: l, h1, h2, h3 => by
    have ih := count_add (l := l) h1 h2 h3
    rw [List.countP_cons, List.countP_cons, List.countP_cons]
    cases hp : P a with
    | true =>
      rw [h1 a hp]
      cases hq : Q a with
      | true => exact absurd (h3 a hp hq) id
      | false => simp only [if_true, Bool.false_eq_true, if_false]; omega
    | false =>
      cases hq : Q a with
      | true => rw [h2 a hq]; simp only [if_true, Bool.false_eq_true, if_false]; omega
      | false => simp only [Bool.false_eq_true, if_false]; split <;> omega
theorem count_add1 {P Q S : Pt → Bool} {m : Pt} {l : List Pt} (h1 : ∀ w, P w = true → S w = true) (h2 : ∀ w, Q w = true → S w = true) (h3 : ∀ w, P w = true → Q w = true → False) (hm : m ∈ l) (hS : S m = true) (hP : P m = false) (hQ : Q m = false) : l.countP P + l.countP Q + 1 ≤ l.countP S := by
  have a := count_add (l := l) (P := P) (Q := Q) (S := fun w => P w || Q w) (fun w e => by rw [e]; rfl) (fun w e => by rw [e, Bool.or_true]) h3
  have b := count_lt (l := l) (P := fun w => P w || Q w) (Q := S) (fun w e => by
    rcases Bool.or_eq_true_iff.1 e with e | e
    · exact h1 w e
    · exact h2 w e) ⟨m, hm, hS, by rw [hP, hQ]; rfl⟩
  omega
theorem box_len (n : Nat) : (box n).length = (2 * n + 1) * (2 * n + 1) := by
  have : ∀ (l : List Nat) (f : Nat → List Pt) (k : Nat), (∀ i, (f i).length = k) → (l.flatMap f).length = l.length * k := by
    intro l f k h
    induction l with
    | nil => simp
    | cons a l ih => rw [List.flatMap_cons, List.length_append, ih, h, List.length_cons, Nat.succ_mul, Nat.add_comm]
  unfold box
  rw [this _ _ (2 * n + 1) (fun i => by rw [List.length_map, List.length_range]), List.length_range]
theorem bt_len {R t : Int} (hR : 0 < R) (hR2 : R ≤ 4000000) {p q : Pt} {l : List Pt} (h : Bt R t p q l) : Arcs R p q → l.length ≤ (box 2000).countP (inS p q) := by
  induction h with
  | cl => intro _; exact Nat.zero_le _
  | eq => intro _; exact Nat.zero_le _
  | @st p q l m _ h1 h2 _ _ ih1 ih2 =>
    intro a
    obtain ⟨b, c⟩ := arcs_split hR a h1 h2
    have i1 := ih1 b
    have i2 := ih2 c
    have d := dig_2000 hR2 b.2.1
    have c0 := a.2.2.2.2.1
    have c1 := b.2.2.2.2.1
    have c2 := c.2.2.2.2.1
    generalize mid R p q = k at *
    have self : crs0 k k = 0 := by unfold crs0; grind
    have anti : ∀ w, crs0 w k = -crs0 k w := fun w => by unfold crs0; grind
    have := count_add1 (l := box 2000) (P := inS p k) (Q := inS k q) (S := inS p q) (m := k) (fun w hw => by
      have g := of_decide_eq_true hw
      refine decide_eq_true ⟨g.1, ?_⟩
      have e := plu p w k q
      have x1 := mulp g.1 c2
      have x2 := mulp c0 g.2
      have x3 : 0 * crs0 p k < crs0 w q * crs0 p k := by rw [Int.mul_comm (crs0 w q)]; omega
      exact of_mul_lt c1 x3) (fun w hw => by
      have g := of_decide_eq_true hw
      refine decide_eq_true ⟨?_, g.2⟩
      have e := plu p k w q
      have x1 := mulp c0 g.1
      have x2 := mulp c1 g.2
      have x3 : 0 * crs0 k q < crs0 p w * crs0 k q := by omega
      exact of_mul_lt c2 x3) (fun w g1 g2 => by
      have a1 := (of_decide_eq_true g1).2
      have a2 := (of_decide_eq_true g2).1
      have := anti w
      omega) (mem_box (by omega) (by omega) (by omega) (by omega)) (decide_eq_true ⟨c1, c2⟩) (decide_eq_false fun g => by omega) (decide_eq_false fun g => by omega)
    rw [List.length_append, List.length_cons]
    omega
theorem bt_max {R t : Int} (hR : 0 < R) (hR2 : R ≤ 4000000) {p q : Pt} {l : List Pt} (h : Bt R t p q l) (a : Arcs R p q) : l.length ≤ 16008001 := by
  have h1 := bt_len hR hR2 h a
  have h2 := List.countP_le_length (p := inS p q) (l := box 2000)
  rw [box_len] at h2
  omega
def rank (p q : Pt) : Nat := if qtr p q = true then 0 else if qtr (lft p) q = true then 1 else if qtr (lft (lft p)) q = true then 2 else 3
theorem qtr_four {R : Int} {p q : Pt} (hR : 0 < R) (hp : nrm p = R) (hq : nrm q = R) : qtr p q = true ∨ qtr (lft p) q = true ∨ qtr (lft (lft p)) q = true ∨ qtr (lft (lft (lft p))) q = true := by
  have c := cauchy p q
  rw [hp, hq] at c
  have RR := mulp hR hR
  simp only [qtr, decide_eq_true_eq, qtr_step.1, qtr_step.2]
  generalize crs0 p q = C at *
  generalize dot0 p q = E at *
  have : ¬ (C = 0 ∧ E = 0) := fun ⟨e1, e2⟩ => by subst e1; subst e2; omega
  omega
theorem rank_step {R : Int} {p q : Pt} (hR : 0 < R) (hp : nrm p = R) (hq : nrm q = R) (h : qtr p q = false) : rank p q = rank (lft p) q + 1 := by
  have f := qtr_four hR hp hq
  rw [h] at f
  unfold rank
  rw [h]
  simp only [Bool.false_eq_true, if_false, false_or] at f ⊢
  split
  · rfl
  · next a =>
    split
    · rfl
    · next b =>
      rw [if_pos ((f.resolve_left a).resolve_left b)]
theorem ch_len {R t : Int} (hR : 0 < R) (hR2 : R ≤ 4000000) {p q : Pt} {l : List Pt} (h : Ch R t p q l) : nrm p = R → nrm q = R → l.length ≤ 16008002 * (rank p q + 1) := by
  induction h with
  | last h k =>
    intro hp hq
    have := bt_max hR hR2 k (arcs_own hR hp hq h)
    rw [List.length_append, List.length_cons, List.length_nil]
    omega
  | more h k _ ih =>
    intro hp hq
    have i := ih (by rw [lft_nrm]; exact hp) hq
    have := bt_max hR hR2 k (arcs_own hR hp (by rw [lft_nrm]; exact hp) (qtr_lft hR hp))
    rw [rank_step hR hp hq h, List.length_append, List.length_cons]
    omega
theorem ch_max {R t : Int} (hR : 0 < R) (hR2 : R ≤ 4000000) {p q : Pt} {l : List Pt} (h : Ch R t p q l) (hp : nrm p = R) (hq : nrm q = R) : l.length ≤ 64032008 := by
  have a := ch_len hR hR2 h hp hq
  have b : rank p q ≤ 3 := by unfold rank; split; omega; split; omega; split <;> omega
  omega
end Go.Proofs.Ytlogihcmmoldkaa.A
