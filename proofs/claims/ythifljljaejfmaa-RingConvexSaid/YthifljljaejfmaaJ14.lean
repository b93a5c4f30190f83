/-
  hull, plain: a convex ring around some points whose vertices are among them: the next vertex is the one that is found by turning around the last one; its least vertex is the least point; so there is one such ring only. No condition but those that stand.
  hull, plain: vertices are distinct; there is one hull; a linear function takes its least value at a vertex; what contains the vertices contains the ring; the square of a scalar product. No condition but those that stand.
-/
import Derived.Test.YthifljljaejfmaaJ08
import Derived.Test.YthifljljaejfmaaJ13
namespace Go.Proofs.Ythifljljaejfmaa.G
open Go.RowKit Go.Proofs.Ythifljljaejfmaa.V Go.Proofs.Ythifljljaejfmaa.W

def crsP (a b c : Pt) : Int := crs a.1 a.2 b.1 b.2 c.1 c.2
def sqP (a b : Pt) : Int := (b.1 - a.1) * (b.1 - a.1) + (b.2 - a.2) * (b.2 - a.2)
/-- convex: each vertex lies strictly to the left of each edge that it is no end of -/
def ConvP (r : List Pt) : Prop := 3 ≤ r.length ∧ ∀ i k, i < r.length → k < r.length → k ≠ i → k ≠ (i + 1) % r.length → 0 < crsP (at_ r i) (at_ r ((i + 1) % r.length)) (at_ r k)
/-- inside or on the boundary -/
def InP (r : List Pt) (p : Pt) : Prop := ∀ i, i < r.length → 0 ≤ crsP (at_ r i) (at_ r ((i + 1) % r.length)) p
theorem crsP_swap (p q x : Pt) : crsP p q x = -crsP p x q := by unfold crsP crs; grind
theorem sq_zero {a b : Pt} (h : sqP a b = 0) : a = b := by
  unfold sqP at h
  have h1 := sq_nonneg (b.1 - a.1)
  have h2 := sq_nonneg (b.2 - a.2)
  have e1 : b.1 - a.1 = 0 := by
    rcases Int.mul_eq_zero.1 (show (b.1 - a.1) * (b.1 - a.1) = 0 by omega) with h | h <;> exact h
  have e2 : b.2 - a.2 = 0 := by
    rcases Int.mul_eq_zero.1 (show (b.2 - a.2) * (b.2 - a.2) = 0 by omega) with h | h <;> exact h
  exact Prod.ext (by omega) (by omega)
theorem sq_diff (A E : Int) : (A - E) * (A + E) = A * A - E * E := by grind
/-- a point on the line of an edge between the edges before and behind it -/
theorem edge_part {u p q w x : Pt} (hx : crsP p q x = 0) (h1 : 0 < crsP u p q) (h2 : 0 ≤ crsP u p x) (h3 : 0 < crsP q w p) (h4 : 0 ≤ crsP q w x) : sqP p x ≤ sqP p q ∧ (sqP p x = sqP p q → x = q) := by
  obtain ⟨u1, u2⟩ := u
  obtain ⟨p1, p2⟩ := p
  obtain ⟨q1, q2⟩ := q
  obtain ⟨w1, w2⟩ := w
  obtain ⟨x1, x2⟩ := x
  unfold crsP crs at *
  unfold sqP
  simp only at *
  obtain ⟨d1, hd1⟩ : ∃ d, q1 - p1 = d := ⟨_, rfl⟩
  obtain ⟨d2, hd2⟩ : ∃ d, q2 - p2 = d := ⟨_, rfl⟩
  obtain ⟨e1, he1⟩ : ∃ d, x1 - p1 = d := ⟨_, rfl⟩
  obtain ⟨e2, he2⟩ : ∃ d, x2 - p2 = d := ⟨_, rfl⟩
  obtain ⟨A, hA⟩ : ∃ A, (p1 - u1) * (q2 - u2) - (p2 - u2) * (q1 - u1) = A := ⟨_, rfl⟩
  obtain ⟨E, hE⟩ : ∃ A, (p1 - u1) * (x2 - u2) - (p2 - u2) * (x1 - u1) = A := ⟨_, rfl⟩
  obtain ⟨B, hB⟩ : ∃ A, (w1 - q1) * (p2 - q2) - (w2 - q2) * (p1 - q1) = A := ⟨_, rfl⟩
  obtain ⟨F, hF⟩ : ∃ A, (w1 - q1) * (x2 - q2) - (w2 - q2) * (x1 - q1) = A := ⟨_, rfl⟩
  rw [hA] at h1
  rw [hE] at h2
  rw [hB] at h3
  rw [hF] at h4
  rw [hd1, hd2, he1, he2] at hx ⊢
  have k1 : A * e1 = E * d1 := by subst hA hE hd1 hd2 he1 he2; grind
  have k2 : A * e2 = E * d2 := by subst hA hE hd1 hd2 he1 he2; grind
  have k3 : B * (d1 - e1) = F * d1 := by subst hB hF hd1 hd2 he1 he2; grind
  have k4 : B * (d2 - e2) = F * d2 := by subst hB hF hd1 hd2 he1 he2; grind
  have hd : ¬ (d1 = 0 ∧ d2 = 0) := by
    rintro ⟨rfl, rfl⟩
    have e3 : q1 = p1 := by omega
    have e4 : q2 = p2 := by omega
    subst e3 e4
    have : A = 0 := by subst hA; grind
    omega
  have key : A * B = B * E + A * F := by
    have m1 : (A * B - B * E - A * F) * d1 = 0 := by grind
    have m2 : (A * B - B * E - A * F) * d2 = 0 := by grind
    have hz : A * B - B * E - A * F = 0 := by
      by_cases hc : d1 = 0
      · exact (Int.mul_eq_zero.1 m2).resolve_right (fun h => hd ⟨hc, h⟩)
      · exact (Int.mul_eq_zero.1 m1).resolve_right hc
    omega
  have hle : E ≤ A := by
    have t1 := Int.mul_nonneg (Int.le_of_lt h1) h4
    have t2 : B * (A - E) = A * F := by grind
    have t3 : 0 ≤ A - E := by
      rcases Int.lt_or_le (A - E) 0 with c | c
      · have := Int.mul_neg_of_pos_of_neg h3 c
        omega
      · exact c
    omega
  have hs : A * A * (e1 * e1 + e2 * e2) = E * E * (d1 * d1 + d2 * d2) := by grind
  have hEE : E * E ≤ A * A := Int.mul_le_mul hle hle h2 (by omega)
  have hdp := sum_pos hd
  have hAA : 0 < A * A := Int.mul_pos h1 h1
  constructor
  · rcases Int.lt_or_le (d1 * d1 + d2 * d2) (e1 * e1 + e2 * e2) with c | c
    · have t1 := Int.mul_lt_mul_of_pos_left c hAA
      have t2 := Int.mul_le_mul_of_nonneg_right hEE (Int.le_of_lt hdp)
      omega
    · exact c
  · intro heq
    rw [heq] at hs
    have hE2 : A * A = E * E := Int.eq_of_mul_eq_mul_right (by omega) hs
    have hEA : E = A := by
      have t : (A - E) * (A + E) = 0 := by rw [sq_diff]; omega
      rcases Int.mul_eq_zero.1 t with c | c <;> omega
    subst hEA
    have f1 : e1 = d1 := Int.eq_of_mul_eq_mul_left (by omega) k1
    have f2 : e2 = d2 := Int.eq_of_mul_eq_mul_left (by omega) k2
    exact Prod.ext (by simp only; omega) (by simp only; omega)
section
variable {r : List Pt} (hr : ConvP r)
include hr
theorem conv_next {i : Nat} (hi : i < r.length) : at_ r i ≠ at_ r ((i + 1) % r.length) := by
  obtain ⟨h3, hc⟩ := hr
  intro e
  obtain ⟨k, hk, h1, h2⟩ : ∃ k, k < r.length ∧ k ≠ i ∧ k ≠ (i + 1) % r.length := by
    rcases Nat.lt_or_ge (i + 1) r.length with c | c
    · rw [Nat.mod_eq_of_lt c]
      rcases Nat.lt_or_ge (i + 2) r.length with d | d
      · exact ⟨i + 2, d, by omega, by omega⟩
      · exact ⟨0, by omega, by omega, by omega⟩
    · rw [show i + 1 = r.length by omega, Nat.mod_self]
      exact ⟨1, by omega, by omega, by omega⟩
  have := hc i k hi hk h1 h2
  rw [← e] at this
  unfold crsP crs at this
  have z : (at_ r i).1 - (at_ r i).1 = 0 := by omega
  have z2 : (at_ r i).2 - (at_ r i).2 = 0 := by omega
  rw [z, z2, Int.zero_mul, Int.zero_mul] at this
  omega
/-- what lies on the line of an edge, and in the ring, is no farther than the edge's end -/
theorem conv_edge {i : Nat} (hi : i < r.length) {x : Pt} (hx : InP r x) (h0 : crsP (at_ r i) (at_ r ((i + 1) % r.length)) x = 0) :
    sqP (at_ r i) x ≤ sqP (at_ r i) (at_ r ((i + 1) % r.length)) ∧ (sqP (at_ r i) x = sqP (at_ r i) (at_ r ((i + 1) % r.length)) → x = at_ r ((i + 1) % r.length)) := by
  obtain ⟨h3, hc⟩ := hr
  have hn : 0 < r.length := by omega
  have hi' := Nat.mod_lt (i + 1) hn
  obtain ⟨j, hj, hji⟩ : ∃ j, j < r.length ∧ (j + 1) % r.length = i := by
    rcases Nat.eq_zero_or_pos i with c | c
    · exact ⟨r.length - 1, by omega, by rw [show r.length - 1 + 1 = r.length by omega, Nat.mod_self]; exact c.symm⟩
    · exact ⟨i - 1, by omega, by rw [show i - 1 + 1 = i by omega, Nat.mod_eq_of_lt hi]⟩
  have nx : ∀ k, k < r.length → (k + 1) % r.length = if k + 1 = r.length then 0 else k + 1 := fun k hk => by
    split
    · rename_i h; rw [h, Nat.mod_self]
    · rw [Nat.mod_eq_of_lt (by omega)]
  have a1 := hc j ((i + 1) % r.length) hj hi' (by rw [nx j hj] at hji; rw [nx i hi]; split at hji <;> split <;> omega) (by rw [hji, nx i hi]; split <;> omega)
  have a2 := hx j hj
  rw [hji] at a1 a2
  obtain ⟨m, hm⟩ : ∃ m, (i + 1) % r.length = m := ⟨_, rfl⟩
  rw [hm] at hi' a1 h0 ⊢
  have a3 := hc m i hi' hi (by rw [nx i hi] at hm; split at hm <;> omega) (by rw [nx m hi']; rw [nx i hi] at hm; split at hm <;> split <;> omega)
  have a4 := hx m hi'
  exact edge_part h0 a1 a2 a3 a4
end
/-- one step of the search for the next vertex -/
def nextStep (p q x : Pt) : Pt := if x = p then q else if q = p then x else if crsP p q x < 0 ∨ crsP p q x = 0 ∧ sqP p q < sqP p x then x else q
def nextTo (l : List Pt) (p : Pt) : Pt := l.foldl (nextStep p) p
section
variable {r : List Pt} (hr : ConvP r) {l : List Pt} (hin : ∀ x ∈ l, InP r x) {i : Nat} (hi : i < r.length)
include hr hin hi
theorem next_stays : ∀ (m : List Pt), (∀ x ∈ m, x ∈ l) → m.foldl (nextStep (at_ r i)) (at_ r ((i + 1) % r.length)) = at_ r ((i + 1) % r.length)
  | [], _ => rfl
  | x :: m, h => by
    have hx := hin x (h x List.mem_cons_self)
    rw [List.foldl_cons]
    have e : nextStep (at_ r i) (at_ r ((i + 1) % r.length)) x = at_ r ((i + 1) % r.length) := by
      unfold nextStep
      split
      · rfl
      · rw [if_neg (Ne.symm (conv_next hr hi)), if_neg]
        rintro (c | ⟨c, d⟩)
        · have := hx i hi
          omega
        · have := (conv_edge hr hi hx c).1
          omega
    rw [e]
    exact next_stays m fun y hy => h y (List.mem_cons_of_mem _ hy)
theorem next_found : ∀ (m : List Pt) (q : Pt), (∀ x ∈ m, x ∈ l) → (q = at_ r i ∨ q ∈ l) → at_ r ((i + 1) % r.length) ∈ m → m.foldl (nextStep (at_ r i)) q = at_ r ((i + 1) % r.length)
  | [], _, _, _, h => by cases h
  | x :: m, q, h, hq, hm => by
    rw [List.foldl_cons]
    by_cases hx : x = at_ r ((i + 1) % r.length)
    · have e : nextStep (at_ r i) q x = at_ r ((i + 1) % r.length) := by
        rw [hx]
        unfold nextStep
        rw [if_neg (Ne.symm (conv_next hr hi))]
        split
        · rfl
        · rename_i hqp
          rcases hq with hq | hq
          · exact absurd hq hqp
          · have hqi := hin q hq
            have h1 := hqi i hi
            split
            · rfl
            · rename_i hno
              have h0 : crsP (at_ r i) q (at_ r ((i + 1) % r.length)) = 0 := by
                have := crsP_swap (at_ r i) q (at_ r ((i + 1) % r.length))
                rcases Int.lt_trichotomy (crsP (at_ r i) q (at_ r ((i + 1) % r.length))) 0 with c | c | c
                · exact absurd (.inl c) hno
                · exact c
                · omega
              have h0' : crsP (at_ r i) (at_ r ((i + 1) % r.length)) q = 0 := by
                have := crsP_swap (at_ r i) q (at_ r ((i + 1) % r.length))
                omega
              obtain ⟨g1, g2⟩ := conv_edge hr hi hqi h0'
              refine g2 ?_
              rcases Int.lt_or_eq_of_le g1 with c | c
              · exact absurd (.inr ⟨h0, c⟩) hno
              · exact c
      rw [e]
      exact next_stays hr hin hi m fun y hy => h y (List.mem_cons_of_mem _ hy)
    · have hm' : at_ r ((i + 1) % r.length) ∈ m := by
        rcases List.mem_cons.1 hm with c | c
        · exact absurd c.symm hx
        · exact c
      refine next_found m _ (fun y hy => h y (List.mem_cons_of_mem _ hy)) ?_ hm'
      unfold nextStep
      split
      · exact hq
      · split
        · exact .inr (h x List.mem_cons_self)
        · split
          · exact .inr (h x List.mem_cons_self)
          · exact hq
/-- the search finds the next vertex -/
theorem next_vertex (hv : ∀ k, k < r.length → at_ r k ∈ l) : nextTo l (at_ r i) = at_ r ((i + 1) % r.length) :=
  next_found hr hin hi l _ (fun _ h => h) (.inl rfl) (hv _ (Nat.mod_lt _ (by omega)))
end
/-- the order of points: by the second coordinate, then by the first -/
def LeP (a b : Pt) : Prop := a.2 < b.2 ∨ a.2 = b.2 ∧ a.1 ≤ b.1
theorem le_antisymm' {a b : Pt} (h : LeP a b) (g : LeP b a) : a = b := by
  unfold LeP at h g
  exact Prod.ext (by omega) (by omega)
/-- a point between two rays from p whose ends are not less than p is not less than p -/
theorem cone_le {u p w m : Pt} (h1 : 0 < crsP p w u) (hu : LeP p u) (hw : LeP p w) (h2 : 0 ≤ crsP p w m) (h3 : 0 ≤ crsP u p m) : LeP p m := by
  obtain ⟨u1, u2⟩ := u
  obtain ⟨p1, p2⟩ := p
  obtain ⟨w1, w2⟩ := w
  obtain ⟨m1, m2⟩ := m
  unfold crsP crs at *
  unfold LeP at *
  simp only at *
  obtain ⟨a1, ha1⟩ : ∃ d, u1 - p1 = d := ⟨_, rfl⟩
  obtain ⟨a2, ha2⟩ : ∃ d, u2 - p2 = d := ⟨_, rfl⟩
  obtain ⟨b1, hb1⟩ : ∃ d, w1 - p1 = d := ⟨_, rfl⟩
  obtain ⟨b2, hb2⟩ : ∃ d, w2 - p2 = d := ⟨_, rfl⟩
  obtain ⟨c1, hc1⟩ : ∃ d, m1 - p1 = d := ⟨_, rfl⟩
  obtain ⟨c2, hc2⟩ : ∃ d, m2 - p2 = d := ⟨_, rfl⟩
  have e1 : (p1 - u1) * (m2 - u2) - (p2 - u2) * (m1 - u1) = c1 * a2 - c2 * a1 := by subst ha1 ha2 hc1 hc2; grind
  rw [hb1, ha2, hb2, ha1] at h1
  rw [hb1, hc2, hb2, hc1] at h2
  rw [e1] at h3
  obtain ⟨D, hD⟩ : ∃ D, b1 * a2 - b2 * a1 = D := ⟨_, rfl⟩
  obtain ⟨al, hal⟩ : ∃ D, c1 * a2 - c2 * a1 = D := ⟨_, rfl⟩
  obtain ⟨be, hbe⟩ : ∃ D, b1 * c2 - b2 * c1 = D := ⟨_, rfl⟩
  rw [hD] at h1
  rw [hbe] at h2
  rw [hal] at h3
  have k1 : D * c1 = al * b1 + be * a1 := by subst hD hal hbe; grind
  have k2 : D * c2 = al * b2 + be * a2 := by subst hD hal hbe; grind
  have s1 : 0 ≤ a2 := by omega
  have s2 : 0 ≤ b2 := by omega
  have t1 := Int.mul_nonneg h3 s2
  have t2 := Int.mul_nonneg h2 s1
  have c1n : 0 ≤ c2 := by
    rcases Int.lt_or_le c2 0 with c | c
    · have := Int.mul_neg_of_pos_of_neg h1 c
      omega
    · exact c
  rcases Int.lt_or_eq_of_le c1n with c | c
  · left; omega
  · right
    refine ⟨by omega, ?_⟩
    have z : al * b2 + be * a2 = 0 := by rw [← k2, ← c, Int.mul_zero]
    have z1 : al * b2 = 0 := by omega
    have z2 : be * a2 = 0 := by omega
    have y1 : 0 ≤ al * b1 := by
      rcases Int.mul_eq_zero.1 z1 with h | h
      · rw [h, Int.zero_mul]; exact Int.le_refl _
      · exact Int.mul_nonneg h3 (by omega)
    have y2 : 0 ≤ be * a1 := by
      rcases Int.mul_eq_zero.1 z2 with h | h
      · rw [h, Int.zero_mul]; exact Int.le_refl _
      · exact Int.mul_nonneg h2 (by omega)
    have c2n : 0 ≤ c1 := by
      rcases Int.lt_or_le c1 0 with c | c
      · have := Int.mul_neg_of_pos_of_neg h1 c
        omega
      · exact c
    omega
theorem le_refl' (a : Pt) : LeP a a := .inr ⟨rfl, Int.le_refl _⟩
/-- if vertex i is the least vertex, every point in the ring is not less -/
theorem least_vertex {r : List Pt} (hr : ConvP r) {i : Nat} (hi : i < r.length) (hl : ∀ k, k < r.length → LeP (at_ r i) (at_ r k)) {m : Pt} (hm : InP r m) : LeP (at_ r i) m := by
  obtain ⟨h3, hc⟩ := hr
  have hn : 0 < r.length := by omega
  have hi' := Nat.mod_lt (i + 1) hn
  have nx : ∀ k, k < r.length → (k + 1) % r.length = if k + 1 = r.length then 0 else k + 1 := fun k hk => by
    split
    · rename_i h; rw [h, Nat.mod_self]
    · rw [Nat.mod_eq_of_lt (by omega)]
  obtain ⟨j, hj, hji⟩ : ∃ j, j < r.length ∧ (j + 1) % r.length = i := by
    rcases Nat.eq_zero_or_pos i with c | c
    · exact ⟨r.length - 1, by omega, by rw [show r.length - 1 + 1 = r.length by omega, Nat.mod_self]; exact c.symm⟩
    · exact ⟨i - 1, by omega, by rw [show i - 1 + 1 = i by omega, Nat.mod_eq_of_lt hi]⟩
  have a1 := hc i j hi hj (by rw [nx j hj] at hji; split at hji <;> omega) (by rw [nx j hj] at hji; rw [nx i hi]; split at hji <;> split <;> omega)
  have a2 := hm i hi
  have a3 := hm j hj
  rw [hji] at a3
  exact cone_le a1 (hl j hj) (hl _ hi') a2 a3
end Go.Proofs.Ythifljljaejfmaa.G

namespace Go.Proofs.Ythifljljaejfmaa.G
open Go.RowKit Go.Proofs.Ythifljljaejfmaa.V Go.Proofs.Ythifljljaejfmaa.W

theorem conv_distinct {r : List Pt} (hr : ConvP r) {i j : Nat} (hi : i < r.length) (hj : j < r.length) (h : at_ r i = at_ r j) : i = j := by
  rcases Nat.lt_trichotomy i j with c | c | c
  · exfalso
    by_cases hn : j = (i + 1) % r.length
    · rw [hn] at h
      exact conv_next hr hi h
    · have := hr.2 i j hi hj (by omega) hn
      rw [← h] at this
      unfold crsP crs at this
      have e : ∀ (a b : Pt), (b.1 - a.1) * (a.2 - a.2) - (b.2 - a.2) * (a.1 - a.1) = 0 := fun a b => by grind
      rw [e] at this
      omega
  · exact c
  · exfalso
    by_cases hn : i = (j + 1) % r.length
    · rw [hn] at h
      exact conv_next hr hj h.symm
    · have := hr.2 j i hj hi (by omega) hn
      rw [h] at this
      unfold crsP crs at this
      have e : ∀ (a b : Pt), (b.1 - a.1) * (a.2 - a.2) - (b.2 - a.2) * (a.1 - a.1) = 0 := fun a b => by grind
      rw [e] at this
      omega
/-- r is the hull of l, from its least vertex on -/
structure HullP (l r : List Pt) : Prop where
  conv : ConvP r
  mem : ∀ k, k < r.length → at_ r k ∈ l
  all : ∀ x ∈ l, InP r x
  low : ∀ k, k < r.length → LeP (at_ r 0) (at_ r k)
theorem HullP.first {l r : List Pt} (h : HullP l r) : at_ r 0 ∈ l ∧ ∀ x ∈ l, LeP (at_ r 0) x :=
  have h0 : 0 < r.length := by have := h.conv.1; omega
  ⟨h.mem 0 h0, fun x hx => least_vertex h.conv h0 h.low (h.all x hx)⟩
theorem HullP.next {l r : List Pt} (h : HullP l r) {i : Nat} (hi : i < r.length) : nextTo l (at_ r i) = at_ r ((i + 1) % r.length) := next_vertex h.conv h.all hi h.mem
theorem hull_start {l r s : List Pt} (h : HullP l r) (g : HullP l s) : at_ r 0 = at_ s 0 := le_antisymm' (h.first.2 _ g.first.1) (g.first.2 _ h.first.1)
theorem hull_same {l r s : List Pt} (h : HullP l r) (g : HullP l s) : ∀ i, i < r.length → i < s.length → at_ r i = at_ s i
  | 0, _, _ => hull_start h g
  | i + 1, hi, hj => by
    have e := hull_same h g i (by omega) (by omega)
    have e1 := h.next (i := i) (by omega)
    have e2 := g.next (i := i) (by omega)
    rw [Nat.mod_eq_of_lt hi] at e1
    rw [Nat.mod_eq_of_lt hj] at e2
    rw [← e1, ← e2, e]
theorem hull_le {l r s : List Pt} (h : HullP l r) (g : HullP l s) : s.length ≤ r.length := by
  rcases Nat.lt_or_ge r.length s.length with c | c
  · exfalso
    have h3 := h.conv.1
    have e := hull_same h g (r.length - 1) (by omega) (by omega)
    have e1 := h.next (i := r.length - 1) (by omega)
    have e2 := g.next (i := r.length - 1) (by omega)
    rw [show r.length - 1 + 1 = r.length by omega, Nat.mod_self] at e1
    rw [show r.length - 1 + 1 = r.length by omega, Nat.mod_eq_of_lt c] at e2
    rw [e, e2, hull_start h g] at e1
    have := conv_distinct g.conv c (by omega) e1
    omega
  · exact c
/-- there is one hull -/
theorem hull_unique {l r s : List Pt} (h : HullP l r) (g : HullP l s) : r = s := by
  have e : r.length = s.length := Nat.le_antisymm (hull_le g h) (hull_le h g)
  apply List.ext_getElem?
  intro i
  rcases Nat.lt_or_ge i r.length with c | c
  · rw [at_some c, at_some (by omega), hull_same h g i c (by omega)]
  · rw [List.getElem?_eq_none c, List.getElem?_eq_none (by omega)]
/-- a linear function -/
def linP (g h : Int) (p : Pt) : Int := g * p.1 + h * p.2
theorem cone_lin {u p w m : Pt} (g h : Int) (h1 : 0 < crsP p w u) (hu : linP g h p ≤ linP g h u) (hw : linP g h p ≤ linP g h w) (h2 : 0 ≤ crsP p w m) (h3 : 0 ≤ crsP u p m) : linP g h p ≤ linP g h m := by
  have k : crsP p w u * (linP g h m - linP g h p) = crsP u p m * (linP g h w - linP g h p) + crsP p w m * (linP g h u - linP g h p) := by
    unfold crsP crs linP
    grind
  have t1 := Int.mul_nonneg h3 (show 0 ≤ linP g h w - linP g h p by omega)
  have t2 := Int.mul_nonneg h2 (show 0 ≤ linP g h u - linP g h p by omega)
  rcases Int.lt_or_le (linP g h m) (linP g h p) with c | c
  · have := Int.mul_neg_of_pos_of_neg h1 (show linP g h m - linP g h p < 0 by omega)
    omega
  · exact c
/-- an index at which a function of the vertices is least -/
theorem least_at (f : Nat → Int) : ∀ n, 0 < n → ∃ i, i < n ∧ ∀ k, k < n → f i ≤ f k
  | 1, _ => ⟨0, by omega, fun k hk => by obtain rfl : k = 0 := by omega
                                         exact Int.le_refl _⟩
  | n + 2, _ => by
    obtain ⟨i, hi, h⟩ := least_at f (n + 1) (by omega)
    rcases Int.lt_or_le (f (n + 1)) (f i) with c | c
    · refine ⟨n + 1, by omega, fun k hk => ?_⟩
      rcases Nat.lt_or_ge k (n + 1) with d | d
      · have := h k d; omega
      · obtain rfl : k = n + 1 := by omega
        exact Int.le_refl _
    · refine ⟨i, by omega, fun k hk => ?_⟩
      rcases Nat.lt_or_ge k (n + 1) with d | d
      · exact h k d
      · obtain rfl : k = n + 1 := by omega
        exact c
/-- in a convex ring a linear function is nowhere less than at the vertex where it is least -/
theorem lin_vertex {r : List Pt} (hr : ConvP r) (g h : Int) {i : Nat} (hi : i < r.length) (hl : ∀ k, k < r.length → linP g h (at_ r i) ≤ linP g h (at_ r k)) {m : Pt} (hm : InP r m) : linP g h (at_ r i) ≤ linP g h m := by
  obtain ⟨h3, hc⟩ := hr
  have hn : 0 < r.length := by omega
  have hi' := Nat.mod_lt (i + 1) hn
  have nx : ∀ k, k < r.length → (k + 1) % r.length = if k + 1 = r.length then 0 else k + 1 := fun k hk => by
    split
    · rename_i h; rw [h, Nat.mod_self]
    · rw [Nat.mod_eq_of_lt (by omega)]
  obtain ⟨j, hj, hji⟩ : ∃ j, j < r.length ∧ (j + 1) % r.length = i := by
    rcases Nat.eq_zero_or_pos i with c | c
    · exact ⟨r.length - 1, by omega, by rw [show r.length - 1 + 1 = r.length by omega, Nat.mod_self]; exact c.symm⟩
    · exact ⟨i - 1, by omega, by rw [show i - 1 + 1 = i by omega, Nat.mod_eq_of_lt hi]⟩
  have a1 := hc i j hi hj (by rw [nx j hj] at hji; split at hji <;> omega) (by rw [nx j hj] at hji; rw [nx i hi]; split at hji <;> split <;> omega)
  have a2 := hm i hi
  have a3 := hm j hj
  rw [hji] at a3
  exact cone_lin g h a1 (hl j hj) (hl _ hi') a2 a3
/-- a half plane that contains the vertices contains the ring -/
theorem lin_all {r : List Pt} (hr : ConvP r) {g h c : Int} (hv : ∀ k, k < r.length → c ≤ linP g h (at_ r k)) {m : Pt} (hm : InP r m) : c ≤ linP g h m := by
  obtain ⟨i, hi, hl⟩ := least_at (fun k => linP g h (at_ r k)) r.length (by have := hr.1; omega)
  exact Int.le_trans (hv i hi) (lin_vertex hr g h hi hl hm)
theorem crs_lin (a b p : Pt) : crsP a b p = linP (-(b.2 - a.2)) (b.1 - a.1) p - linP (-(b.2 - a.2)) (b.1 - a.1) a := by
  unfold crsP crs linP
  grind
/-- a ring that contains the vertices of another one contains it -/
theorem in_sub {r s : List Pt} (hr : ConvP r) (hv : ∀ k, k < r.length → InP s (at_ r k)) {m : Pt} (hm : InP r m) : InP s m := fun i hi => by
  have h := lin_all hr (g := -((at_ s ((i + 1) % s.length)).2 - (at_ s i).2)) (h := (at_ s ((i + 1) % s.length)).1 - (at_ s i).1) (c := linP (-((at_ s ((i + 1) % s.length)).2 - (at_ s i).2)) ((at_ s ((i + 1) % s.length)).1 - (at_ s i).1) (at_ s i)) (fun k hk => by
    have := hv k hk i hi
    rw [crs_lin] at this
    omega) hm
  rw [crs_lin]
  omega
/-- the square of a scalar product is at most the product of the squares -/
theorem cauchy (g h x y : Int) : (g * x + h * y) * (g * x + h * y) ≤ (x * x + y * y) * (g * g + h * h) := by
  have e : (x * x + y * y) * (g * g + h * h) - (g * x + h * y) * (g * x + h * y) = (g * y - h * x) * (g * y - h * x) := by grind
  have := sq_nonneg (g * y - h * x)
  omega
end Go.Proofs.Ythifljljaejfmaa.G
