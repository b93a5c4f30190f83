/-
  hull, plain: a chain that is made by popping what does not turn left, over points in ascending order: it turns left everywhere, and no point lies to the right of one of its edges. No condition but those that stand.
  hull, plain: a ring that turns left at each vertex, whose vertices are distinct and lie to the right of no edge, is convex. No condition but those that stand.
  hull, plain: the lower and the upper chain joined are the hull, unless all points lie on a line. No condition but those that stand.
-/
import Derived.Test.YthifljljaejfmaaJ14
namespace Go.Proofs.Ythifljljaejfmaa.G
open Go.RowKit Go.Proofs.Ythifljljaejfmaa.V Go.Proofs.Ythifljljaejfmaa.W

def LtP (a b : Pt) : Prop := a.2 < b.2 ∨ a.2 = b.2 ∧ a.1 < b.1
theorem LtP.trans {a b c : Pt} (h : LtP a b) (g : LtP b c) : LtP a c := by
  unfold LtP at *
  omega
theorem lt_tri (a b : Pt) : LtP a b ∨ a = b ∨ LtP b a := by
  unfold LtP
  rcases Int.lt_trichotomy a.2 b.2 with h | h | h
  · exact .inl (.inl h)
  · rcases Int.lt_trichotomy a.1 b.1 with g | g | g
    · exact .inl (.inr ⟨h, g⟩)
    · exact .inr (.inl (Prod.ext g h))
    · exact .inr (.inr (.inr ⟨h.symm, g⟩))
  · exact .inr (.inr (.inl h))
/-- a vector to the right, or straight up -/
def Fwd (x y : Int) : Prop := 0 < y ∨ y = 0 ∧ 0 < x
theorem LtP.fwd {a b : Pt} (h : LtP a b) : Fwd (b.1 - a.1) (b.2 - a.2) := by
  unfold LtP at h
  unfold Fwd
  omega
theorem half_trans {u1 u2 v1 v2 w1 w2 : Int} (hu : Fwd u1 u2) (hv : Fwd v1 v2) (hw : Fwd w1 w2) (h : 0 ≤ u1 * v2 - u2 * v1) (g : 0 ≤ v1 * w2 - v2 * w1) : 0 ≤ u1 * w2 - u2 * w1 := by
  unfold Fwd at *
  have k : v2 * (u1 * w2 - u2 * w1) = u2 * (v1 * w2 - v2 * w1) + w2 * (u1 * v2 - u2 * v1) := by grind
  rcases hv with hv | ⟨hv, hv2⟩
  · have t1 := Int.mul_nonneg (show 0 ≤ u2 by omega) g
    have t2 := Int.mul_nonneg (show 0 ≤ w2 by omega) h
    rcases Int.lt_or_le (u1 * w2 - u2 * w1) 0 with c | c
    · have := Int.mul_neg_of_pos_of_neg hv c
      omega
    · exact c
  · subst hv
    rw [Int.mul_zero, Int.zero_sub] at h
    have hu1 : u2 = 0 := by
      rcases hu with hu | hu
      · have := Int.mul_pos hu hv2
        omega
      · exact hu.1
    subst hu1
    have := Int.mul_nonneg (show 0 ≤ u1 by omega) (show 0 ≤ w2 by omega)
    rw [Int.zero_mul]
    omega
theorem half_strict {u1 u2 v1 v2 w1 w2 : Int} (hu : Fwd u1 u2) (hv : Fwd v1 v2) (hw : Fwd w1 w2) (h : 0 < u1 * v2 - u2 * v1) (g : 0 ≤ v1 * w2 - v2 * w1) : 0 < u1 * w2 - u2 * w1 := by
  unfold Fwd at *
  have k : v2 * (u1 * w2 - u2 * w1) = u2 * (v1 * w2 - v2 * w1) + w2 * (u1 * v2 - u2 * v1) := by grind
  rcases hv with hv | ⟨hv, hv2⟩
  · have t1 := Int.mul_nonneg (show 0 ≤ u2 by omega) g
    rcases hw with hw | ⟨hw, hw2⟩
    · have t2 := Int.mul_pos hw h
      rcases Int.lt_or_le 0 (u1 * w2 - u2 * w1) with c | c
      · exact c
      · have := Int.mul_nonpos_of_nonneg_of_nonpos (Int.le_of_lt hv) c
        omega
    · subst hw
      rw [Int.mul_zero, Int.zero_sub] at g
      have := Int.mul_pos hv hw2
      omega
  · subst hv
    rw [Int.mul_zero, Int.zero_sub] at h
    have := Int.mul_nonneg (show 0 ≤ u2 by omega) (Int.le_of_lt hv2)
    omega
theorem crsP_vec (a b c : Pt) : crsP a b c = (b.1 - a.1) * (c.2 - a.2) - (b.2 - a.2) * (c.1 - a.1) := rfl
/-- behind b, an edge (a, b) -/
theorem crsP_at (a b c : Pt) : crsP a b c = (b.1 - a.1) * (c.2 - b.2) - (b.2 - a.2) * (c.1 - b.1) := by unfold crsP crs; grind
/-- a chain, its last point first: ascending, turning left, no point of P to the right of an edge -/
def Good (P : Pt → Prop) : List Pt → Prop
  | [] => True
  | [_] => True
  | b :: a :: r => LtP a b ∧ (∀ q, P q → 0 ≤ crsP a b q) ∧ (∀ z, r.head? = some z → 0 < crsP z a b) ∧ Good P (a :: r)
theorem Good.tail {P : Pt → Prop} {b : Pt} {r : List Pt} (h : Good P (b :: r)) : Good P r := by
  cases r with
  | nil => trivial
  | cons a r => exact h.2.2.2
/-- a point behind the chain that is to the left of its last edge is to the left of all -/
theorem left_below {P : Pt → Prop} {p : Pt} : ∀ (S : List Pt) (a b : Pt), Good P (b :: a :: S) → LtP b p → 0 ≤ crsP a b p → Good (fun q => P q ∨ q = p) (b :: a :: S)
  | [], a, b, h, hl, hp => ⟨h.1, fun q hq => hq.elim (h.2.1 q) fun e => e ▸ hp, h.2.2.1, trivial⟩
  | z :: S, a, b, h, hl, hp => by
    refine ⟨h.1, fun q hq => hq.elim (h.2.1 q) fun e => e ▸ hp, h.2.2.1, ?_⟩
    have g : Good P (a :: z :: S) := h.2.2.2
    refine left_below S z a g (h.1.trans hl) ?_
    have t := h.2.2.1 z rfl
    rw [crsP_at] at t ⊢
    exact half_trans g.1.fwd h.1.fwd (h.1.trans hl).fwd (Int.le_of_lt t) hp
/-- what does not turn left is popped -/
def popC (p : Pt) : List Pt → List Pt
  | [] => []
  | [a] => [a]
  | b :: a :: r => if crsP a b p ≤ 0 then popC p (a :: r) else b :: a :: r
theorem popC_mem {p x : Pt} : ∀ (S : List Pt), x ∈ popC p S → x ∈ S
  | [], h => h
  | [_], h => h
  | b :: a :: r, h => by
    unfold popC at h
    split at h
    · exact List.mem_cons_of_mem _ (popC_mem (a :: r) h)
    · exact h
theorem popC_ne {p : Pt} : ∀ (S : List Pt), S ≠ [] → popC p S ≠ []
  | [], h => h
  | [_], h => h
  | b :: a :: r, _ => by
    unfold popC
    split
    · exact popC_ne (a :: r) (by simp)
    · simp
theorem popC_last {p : Pt} : ∀ (S : List Pt), (popC p S).getLast? = S.getLast?
  | [] => rfl
  | [_] => rfl
  | b :: a :: r => by
    unfold popC
    split
    · rw [popC_last (a :: r), List.getLast?_cons_cons]
    · rfl
/-- the new point behind the popped chain -/
theorem pop_good {P : Pt → Prop} {p : Pt} (hp : ∀ q, P q → LtP q p) : ∀ (S : List Pt), S ≠ [] → (∀ x ∈ S, P x) → Good P S → (∀ z, S.getLast? = some z → ∀ q, P q → q = z ∨ LtP z q) →
    (∀ b, S.head? = some b → ∀ q, P q → LtP b q → 0 ≤ crsP b p q) → Good (fun q => P q ∨ q = p) (p :: popC p S)
  | [], h, _, _, _, _ => absurd rfl h
  | [a], _, hm, _, hlast, hc => by
    refine ⟨hp a (hm a List.mem_cons_self), fun q hq => ?_, fun z hz => (by cases hz), trivial⟩
    rcases hq with hq | rfl
    · rcases hlast a rfl q hq with rfl | h
      · unfold crsP crs; grind
      · exact hc a rfl q hq h
    · unfold crsP crs; grind
  | b :: a :: r, _, hm, hg, hlast, hc => by
    have hb := hp b (hm b List.mem_cons_self)
    have ha := hp a (hm a (by simp))
    unfold popC
    split
    · rename_i hle
      refine pop_good hp (a :: r) (by simp) (fun x hx => hm x (List.mem_cons_of_mem _ hx)) hg.tail (fun z hz => hlast z (by rw [List.getLast?_cons_cons]; exact hz)) fun c hc' q hq hlt => ?_
      obtain rfl : a = c := by simpa using hc'
      have h1 : 0 ≤ crsP a p b := by have := crsP_swap a b p; omega
      have h2 := hg.2.1 q hq
      rw [crsP_vec] at h1 h2 ⊢
      exact half_trans ha.fwd hg.1.fwd hlt.fwd h1 h2
    · rename_i hgt
      have hpos : 0 < crsP a b p := by omega
      refine ⟨hb, fun q hq => ?_, fun z hz => ?_, left_below r a b hg hb (Int.le_of_lt hpos)⟩
      · rcases hq with hq | rfl
        · rcases lt_tri q b with h | rfl | h
          · have h1 := hg.2.1 q hq
            have f1 := h.fwd
            have f2 := hg.1.fwd
            have f3 := hb.fwd
            have e1 : 0 ≤ (b.1 - q.1) * (b.2 - a.2) - (b.2 - q.2) * (b.1 - a.1) := by
              rw [crsP_at] at h1
              have e : (b.1 - q.1) * (b.2 - a.2) - (b.2 - q.2) * (b.1 - a.1) = (b.1 - a.1) * (q.2 - b.2) - (b.2 - a.2) * (q.1 - b.1) := by grind
              omega
            have e2 : 0 ≤ (b.1 - a.1) * (p.2 - b.2) - (b.2 - a.2) * (p.1 - b.1) := by
              rw [← crsP_at]
              omega
            have e3 := half_trans f1 f2 f3 e1 e2
            have e : crsP b p q = (b.1 - q.1) * (p.2 - b.2) - (b.2 - q.2) * (p.1 - b.1) := by unfold crsP crs; grind
            omega
          · unfold crsP crs; grind
          · exact hc b rfl q hq h
        · unfold crsP crs; grind
      · obtain rfl : a = z := by simpa using hz
        exact hpos
/-- the chain of some points in their order -/
def chainC (l : List Pt) : List Pt := l.foldl (fun S p => p :: popC p S) []
theorem chain_good : ∀ (l m S : List Pt), S ≠ [] → (∀ x, x ∈ S → x ∈ m) → (m ++ l).Pairwise LtP → Good (fun q => q ∈ m) S → (∀ z, S.getLast? = some z → m.head? = some z) → S.head? = m.getLast? →
    Good (fun q => q ∈ m ++ l) (l.foldl (fun S p => p :: popC p S) S) ∧ (∀ x ∈ l.foldl (fun S p => p :: popC p S) S, x ∈ m ++ l) ∧ (l.foldl (fun S p => p :: popC p S) S).getLast? = m.head? ∧ (l.foldl (fun S p => p :: popC p S) S).head? = (m ++ l).getLast? ∧ l.foldl (fun S p => p :: popC p S) S ≠ []
  | [], m, S, hne, hm, hs, hg, hl, hh => by
    rw [List.append_nil] at hs ⊢
    refine ⟨hg, hm, ?_, hh, hne⟩
    obtain ⟨z, hz⟩ : ∃ z, S.getLast? = some z := ⟨_, List.getLast?_eq_some_getLast hne⟩
    show S.getLast? = m.head?
    rw [hl z hz, hz]
  | p :: l, m, S, hne, hm, hs, hg, hl, hh => by
    have hs' : ((m ++ [p]) ++ l).Pairwise LtP := by simpa using hs
    have hlt : ∀ q, q ∈ m → LtP q p := fun q hq => by
      have := (List.pairwise_append.1 hs).2.2 q hq p List.mem_cons_self
      exact this
    have hmin : ∀ z, S.getLast? = some z → ∀ q, q ∈ m → q = z ∨ LtP z q := fun z hz q hq => by
      have hz' := hl z hz
      have hsm := (List.pairwise_append.1 hs).1
      match m, hz', hq, hsm with
      | y :: m', hz', hq, hsm =>
        obtain rfl : y = z := by simpa using hz'
        rcases List.mem_cons.1 hq with e | e
        · exact .inl e
        · exact .inr ((List.pairwise_cons.1 hsm).1 q e)
    have htop : ∀ b, S.head? = some b → ∀ q, q ∈ m → LtP b q → 0 ≤ crsP b p q := fun b hb q hq hlt' => by
      exfalso
      rw [hh] at hb
      have hsm := (List.pairwise_append.1 hs).1
      obtain ⟨m', rfl⟩ : ∃ m', m = m' ++ [b] := by
        have hmn : m ≠ [] := by intro e; rw [e] at hq; cases hq
        refine ⟨m.dropLast, ?_⟩
        have e := List.dropLast_concat_getLast hmn
        rw [List.getLast?_eq_some_getLast hmn] at hb
        rw [← Option.some.inj hb]
        exact e.symm
      rcases List.mem_append.1 hq with h | h
      · have := (List.pairwise_append.1 hsm).2.2 q h b List.mem_cons_self
        unfold LtP at this hlt'
        omega
      · obtain rfl : q = b := by simpa using h
        unfold LtP at hlt'
        omega
    have g := pop_good (P := fun q => q ∈ m) hlt S hne hm hg hmin htop
    have g' : Good (fun q => q ∈ m ++ [p]) (p :: popC p S) := by
      have e : (fun q => q ∈ m ∨ q = p) = (fun q => q ∈ m ++ [p]) := by
        funext q
        simp
      rw [← e]
      exact g
    have hlast : (p :: popC p S).getLast? = S.getLast? := by
      obtain ⟨y, t, ht⟩ : ∃ y t, popC p S = y :: t := by
        cases h : popC p S with
        | nil => exact absurd h (popC_ne S hne)
        | cons y t => exact ⟨y, t, rfl⟩
      rw [ht, List.getLast?_cons_cons, ← ht, popC_last]
    have hmne : m ≠ [] := by
      cases S with
      | nil => exact absurd rfl hne
      | cons x t => intro e; have := hm x List.mem_cons_self; rw [e] at this; cases this
    have hhead : (m ++ [p]).head? = m.head? := by
      cases m with
      | nil => exact absurd rfl hmne
      | cons y t => rfl
    have ih := chain_good l (m ++ [p]) (p :: popC p S) (by simp) (fun x hx => by
      rcases List.mem_cons.1 hx with rfl | h
      · simp
      · exact List.mem_append_left _ (hm x (popC_mem S h))) hs' g' (fun z hz => by rw [hlast] at hz; rw [hhead]; exact hl z hz) (by simp)
    rw [List.append_assoc] at ih
    rw [List.foldl_cons]
    rw [hhead] at ih
    exact ih
/-- the chain of ascending points -/
theorem chain_all {a : Pt} {l : List Pt} (hs : (a :: l).Pairwise LtP) : Good (fun q => q ∈ a :: l) (chainC (a :: l)) ∧ (∀ x ∈ chainC (a :: l), x ∈ a :: l) ∧ (chainC (a :: l)).getLast? = some a ∧ (chainC (a :: l)).head? = (a :: l).getLast? ∧ chainC (a :: l) ≠ [] :=
  chain_good l [a] [a] (by simp) (fun _ h => h) hs trivial (fun z hz => by simpa using hz) rfl
end Go.Proofs.Ythifljljaejfmaa.G

namespace Go.Proofs.Ythifljljaejfmaa.G
open Go.RowKit Go.Proofs.Ythifljljaejfmaa.V Go.Proofs.Ythifljljaejfmaa.W

theorem lin_zero {A E B F a b : Int} (hA : 0 < A) (hE : 0 < E) (hB : 0 < B) (hF : 0 < F) (ha : 0 ≤ a) (hb : 0 ≤ b) (h : -(A * a) = E * (b - a)) (g : B * b = F * (b - a)) : a = 0 := by
  rcases Int.lt_or_le 0 a with c | c
  · exfalso
    have t := Int.mul_pos hA c
    have hba : b - a < 0 := by
      rcases Int.lt_or_le (b - a) 0 with k | k
      · exact k
      · have := Int.mul_nonneg (Int.le_of_lt hE) k
        omega
    have t2 := Int.mul_neg_of_pos_of_neg hF hba
    have t3 := Int.mul_nonneg (Int.le_of_lt hB) hb
    omega
  · omega
/-- a point on an edge between its ends is no corner that has both ends on its left -/
theorem no_inner {u p q w x y v : Pt} (hx : crsP p q x = 0) (h1 : 0 < crsP u p q) (h2 : 0 ≤ crsP u p x) (h3 : 0 < crsP p q w) (h4 : 0 ≤ crsP q w x)
    (hk : 0 < crsP y x v) (p1 : 0 ≤ crsP y x p) (p2 : 0 ≤ crsP x v p) (q1 : 0 ≤ crsP y x q) (q2 : 0 ≤ crsP x v q) (np : x ≠ p) (nq : x ≠ q) : False := by
  obtain ⟨A, hA⟩ : ∃ A, crsP u p q = A := ⟨_, rfl⟩
  obtain ⟨E, hE⟩ : ∃ A, crsP u p x = A := ⟨_, rfl⟩
  obtain ⟨B, hB⟩ : ∃ A, crsP p q w = A := ⟨_, rfl⟩
  obtain ⟨F, hF⟩ : ∃ A, crsP q w x = A := ⟨_, rfl⟩
  rw [hA] at h1
  rw [hE] at h2
  rw [hB] at h3
  rw [hF] at h4
  have k1 : A * (x.1 - p.1) = E * (q.1 - p.1) := by subst hA hE; unfold crsP crs at *; grind
  have k2 : A * (x.2 - p.2) = E * (q.2 - p.2) := by subst hA hE; unfold crsP crs at *; grind
  have k3 : B * (q.1 - x.1) = F * (q.1 - p.1) := by subst hB hF; unfold crsP crs at *; grind
  have k4 : B * (q.2 - x.2) = F * (q.2 - p.2) := by subst hB hF; unfold crsP crs at *; grind
  have hE' : 0 < E := by
    rcases Int.lt_or_le 0 E with c | c
    · exact c
    · exfalso
      obtain rfl : E = 0 := by omega
      rw [Int.zero_mul] at k1 k2
      have e1 := (Int.mul_eq_zero.1 k1).resolve_left (by omega)
      have e2 := (Int.mul_eq_zero.1 k2).resolve_left (by omega)
      exact np (Prod.ext (by omega) (by omega))
  have hF' : 0 < F := by
    rcases Int.lt_or_le 0 F with c | c
    · exact c
    · exfalso
      obtain rfl : F = 0 := by omega
      rw [Int.zero_mul] at k3 k4
      have e1 := (Int.mul_eq_zero.1 k3).resolve_left (by omega)
      have e2 := (Int.mul_eq_zero.1 k4).resolve_left (by omega)
      exact nq (Prod.ext (by omega) (by omega))
  have a0 : crsP y x p = 0 := by
    refine lin_zero h1 hE' h3 hF' p1 q1 ?_ ?_
    · unfold crsP crs; grind
    · unfold crsP crs; grind
  have b0 : crsP x v p = 0 := by
    refine lin_zero h1 hE' h3 hF' p2 q2 ?_ ?_
    · unfold crsP crs; grind
    · unfold crsP crs; grind
  have e1 : crsP y x v * (p.1 - x.1) = 0 := by
    have : crsP y x v * (p.1 - x.1) = crsP y x p * (v.1 - x.1) - crsP x v p * (x.1 - y.1) := by unfold crsP crs; grind
    rw [this, a0, b0, Int.zero_mul, Int.zero_mul]; rfl
  have e2 : crsP y x v * (p.2 - x.2) = 0 := by
    have : crsP y x v * (p.2 - x.2) = crsP y x p * (v.2 - x.2) - crsP x v p * (x.2 - y.2) := by unfold crsP crs; grind
    rw [this, a0, b0, Int.zero_mul, Int.zero_mul]; rfl
  have f1 := (Int.mul_eq_zero.1 e1).resolve_left (by omega)
  have f2 := (Int.mul_eq_zero.1 e2).resolve_left (by omega)
  exact np (Prod.ext (by omega) (by omega))
theorem mod_succ {n i : Nat} (hi : i < n) : (i + 1) % n = if i + 1 = n then 0 else i + 1 := by
  split
  · rename_i h
    rw [h, Nat.mod_self]
  · exact Nat.mod_eq_of_lt (by omega)
/-- what turns left at each vertex, and has no vertex to the right of an edge -/
theorem conv_of {r : List Pt} (h3 : 3 ≤ r.length) (ht : ∀ i j k, i < r.length → j = (i + 1) % r.length → k = (j + 1) % r.length → 0 < crsP (at_ r i) (at_ r j) (at_ r k))
    (hin : ∀ k, k < r.length → InP r (at_ r k)) (hd : ∀ i j, i < r.length → j < r.length → at_ r i = at_ r j → i = j) : ConvP r := by
  have pred : ∀ j, j < r.length → ∃ i, i < r.length ∧ j = (i + 1) % r.length := fun j hj => by
    by_cases h0 : j = 0
    · refine ⟨r.length - 1, by omega, ?_⟩
      rw [mod_succ (by omega), if_pos (by omega)]
      exact h0
    · refine ⟨j - 1, by omega, ?_⟩
      rw [mod_succ (by omega), if_neg (by omega)]
      omega
  have lt : ∀ i, (i + 1) % r.length < r.length := fun i => Nat.mod_lt _ (by omega)
  refine ⟨h3, fun i k hi hk n1 n2 => ?_⟩
  have hge := hin k hk i hi
  rcases Int.lt_or_le 0 (crsP (at_ r i) (at_ r ((i + 1) % r.length)) (at_ r k)) with c | c
  · exact c
  · exfalso
    obtain ⟨a, ha, ea⟩ := pred i hi
    obtain ⟨b, hb, eb⟩ := pred k hk
    have hj := lt i
    have t1 := ht a i _ ha ea rfl
    have t2 := ht i _ _ hi rfl rfl
    have t3 := ht b k _ hb eb rfl
    have g1 := hin k hk a ha
    rw [← ea] at g1
    have g2 := hin k hk _ hj
    have g3 := hin i hi b hb
    have g4 := hin _ hj b hb
    rw [← eb] at g3 g4
    exact no_inner (by omega) t1 g1 t2 g2 t3 g3 (hin i hi k hk) g4 (hin _ hj k hk) (fun e => n1 (hd _ _ hk hi e)) (fun e => n2 (hd _ _ hk hj e))
end Go.Proofs.Ythifljljaejfmaa.G

namespace Go.Proofs.Ythifljljaejfmaa.G
open Go.RowKit Go.Proofs.Ythifljljaejfmaa.V Go.Proofs.Ythifljljaejfmaa.W

def ngP (a : Pt) : Pt := (-a.1, -a.2)
theorem ngP_ng (a : Pt) : ngP (ngP a) = a := Prod.ext (Int.neg_neg _) (Int.neg_neg _)
theorem crsP_ng (a b c : Pt) : crsP (ngP a) (ngP b) (ngP c) = crsP a b c := by unfold crsP crs ngP; grind
theorem lt_ng {a b : Pt} : LtP (ngP a) (ngP b) ↔ LtP b a := by unfold LtP ngP; simp only; omega
/-- the corner at the greatest point -/
theorem corner {l : Pt → Prop} {c z d : Pt} (hc : LtP c z) (hd : LtP d z) (hl : ∀ q, l q → q = z ∨ LtP q z) (h1 : ∀ q, l q → 0 ≤ crsP c z q) (h2 : ∀ q, l q → 0 ≤ crsP z d q) (md : l d) : 0 < crsP c z d ∨ ∀ q, l q → crsP c z q = 0 := by
  have g := h1 d md
  rcases Int.lt_or_le 0 (crsP c z d) with k | k
  · exact .inl k
  · refine .inr fun q hq => ?_
    rcases hl q hq with rfl | hlt
    · unfold crsP crs; grind
    · have e0 : crsP c z d = 0 := by omega
      have f1 := h1 q hq
      have f2 := h2 q hq
      have t := half_trans hc.fwd hd.fwd hlt.fwd (by
        have : (z.1 - c.1) * (z.2 - d.2) - (z.2 - c.2) * (z.1 - d.1) = -crsP c z d := by unfold crsP crs; grind
        omega) (by
        have : (z.1 - d.1) * (z.2 - q.2) - (z.2 - d.2) * (z.1 - q.1) = crsP z d q := by unfold crsP crs; grind
        omega)
      have : (z.1 - c.1) * (z.2 - q.2) - (z.2 - c.2) * (z.1 - q.1) = -crsP c z q := by unfold crsP crs; grind
      omega
/-- two points on a line that has two points -/
theorem line_cross {c z p q : Pt} (hc : LtP c z) (h : crsP c z p = 0) (g : crsP c z q = 0) : crsP z p q = 0 := by
  have e1 : (z.1 - c.1) * crsP z p q = 0 := by
    have : (z.1 - c.1) * crsP z p q = (p.1 - z.1) * crsP c z q - (q.1 - z.1) * crsP c z p := by unfold crsP crs; grind
    rw [this, h, g, Int.mul_zero, Int.mul_zero]; rfl
  have e2 : (z.2 - c.2) * crsP z p q = 0 := by
    have : (z.2 - c.2) * crsP z p q = (p.2 - z.2) * crsP c z q - (q.2 - z.2) * crsP c z p := by unfold crsP crs; grind
    rw [this, h, g, Int.mul_zero, Int.mul_zero]; rfl
  rcases Int.mul_eq_zero.1 e1 with k | k
  · rcases Int.mul_eq_zero.1 e2 with k' | k'
    · unfold LtP at hc; omega
    · exact k'
  · exact k
/-- no vertex of both chains but the ends -/
theorem no_both {c x c' w : Pt} (h1 : LtP c x) (h2 : LtP x c') (h3 : LtP x w) (ht : 0 < crsP c x c') (k1 : 0 ≤ crsP c x w) (k2 : 0 ≤ crsP w x c) (k3 : 0 ≤ crsP w x c') : False := by
  have e : crsP w x c = -crsP c x w := by unfold crsP crs; grind
  have t := half_strict (u1 := x.1 - c.1) (u2 := x.2 - c.2) (v1 := c'.1 - x.1) (v2 := c'.2 - x.2) (w1 := w.1 - x.1) (w2 := w.2 - x.2) h1.fwd h2.fwd h3.fwd (by rw [← crsP_at]; exact ht) (by
    have : (c'.1 - x.1) * (w.2 - x.2) - (c'.2 - x.2) * (w.1 - x.1) = crsP w x c' := by unfold crsP crs; grind
    omega)
  rw [← crsP_at] at t
  omega
/-- an ascending chain around the points of l, from below -/
structure Low (l : Pt → Prop) (c : Nat → Pt) (s : Nat) : Prop where
  up : ∀ i, i < s → LtP (c i) (c (i + 1))
  left : ∀ i, i < s → ∀ q, l q → 0 ≤ crsP (c i) (c (i + 1)) q
  turn : ∀ i, i + 1 < s → 0 < crsP (c i) (c (i + 1)) (c (i + 2))
  mem : ∀ i, i ≤ s → l (c i)
theorem Low.lt {l : Pt → Prop} {c : Nat → Pt} {s : Nat} (h : Low l c s) {i : Nat} : ∀ j, i < j → j ≤ s → LtP (c i) (c j)
  | 0, hij, _ => absurd hij (Nat.not_lt_zero i)
  | j + 1, hij, hj => by
    by_cases e : i = j
    · subst e
      exact h.up i (by omega)
    · exact (h.lt j (by omega) (by omega)).trans (h.up j (by omega))
theorem not_ltP (a : Pt) : ¬ LtP a a := by unfold LtP; omega
theorem Low.inj {l : Pt → Prop} {c : Nat → Pt} {s : Nat} (h : Low l c s) {i j : Nat} (hi : i ≤ s) (hj : j ≤ s) (e : c i = c j) : i = j := by
  rcases Nat.lt_trichotomy i j with k | k | k
  · have := h.lt j k hj
    rw [e] at this
    exact absurd this (not_ltP _)
  · exact k
  · have := h.lt i k hi
    rw [e] at this
    exact absurd this (not_ltP _)
/-- the ring of two chains -/
theorem join_hull {l r : List Pt} {c d : Nat → Pt} {s t : Nat} (hs : 1 ≤ s) (ht : 1 ≤ t) (hc : Low (fun q => q ∈ l) c s) (hd : Low (fun q => q ∈ l.map ngP) (fun i => ngP (d i)) t) (e0 : c 0 = d t) (e1 : c s = d 0)
    (ha : ∀ q ∈ l, q = c 0 ∨ LtP (c 0) q) (hz : ∀ q ∈ l, q = c s ∨ LtP q (c s)) (hn : ∃ q ∈ l, crsP (c 0) (c s) q ≠ 0)
    (hr : r.length = s + t) (hrc : ∀ i, i < s → at_ r i = c i) (hrd : ∀ i, i < t → at_ r (s + i) = d i) : HullP l r := by
  have dmem : ∀ i, i ≤ t → d i ∈ l := fun i hi => by
    obtain ⟨q, hq, e⟩ := List.mem_map.1 (hd.mem i hi)
    have : q = d i := by rw [← ngP_ng q, e, ngP_ng]
    exact this ▸ hq
  have dup : ∀ i, i < t → LtP (d (i + 1)) (d i) := fun i hi => lt_ng.1 (hd.up i hi)
  have dleft : ∀ i, i < t → ∀ q ∈ l, 0 ≤ crsP (d i) (d (i + 1)) q := fun i hi q hq => by
    have := hd.left i hi (ngP q) (List.mem_map_of_mem hq)
    rwa [crsP_ng] at this
  have dturn : ∀ i, i + 1 < t → 0 < crsP (d i) (d (i + 1)) (d (i + 2)) := fun i hi => by
    have := hd.turn i hi
    rwa [crsP_ng] at this
  have dinj : ∀ i j, i ≤ t → j ≤ t → d i = d j → i = j := fun i j hi hj e => hd.inj hi hj (by show ngP (d i) = ngP (d j); rw [e])
  -- the vertices, with both ends
  have atc : ∀ i, i ≤ s → at_ r (i % (s + t)) = c i := fun i hi => by
    rw [Nat.mod_eq_of_lt (by omega)]
    by_cases k : i < s
    · exact hrc i k
    · obtain rfl : i = s := by omega
      have := hrd 0 (by omega)
      rw [Nat.add_zero] at this
      rw [this, e1]
  have atd : ∀ i, i ≤ t → at_ r ((s + i) % (s + t)) = d i := fun i hi => by
    by_cases k : i < t
    · rw [Nat.mod_eq_of_lt (by omega)]
      exact hrd i k
    · obtain rfl : i = t := by omega
      rw [Nat.mod_self, hrc 0 (by omega), e0]
  -- no line
  have noline : ∀ {x y : Pt}, x ∈ l → y ∈ l → LtP x y → (∀ q ∈ l, crsP x y q = 0) → False := fun {x y} hx hy hlt h => by
    obtain ⟨q, hq, hne⟩ := hn
    have a1 := line_cross hlt (h _ (hc.mem 0 (by omega))) (h _ (hc.mem s (Nat.le_refl s)))
    have a2 := line_cross hlt (h _ (hc.mem 0 (by omega))) (h q hq)
    have a3 := line_cross hlt (h _ (hc.mem s (Nat.le_refl s))) (h q hq)
    refine hne ?_
    have : crsP (c 0) (c s) q = crsP y (c 0) (c s) + crsP y (c s) q - crsP y (c 0) q := by unfold crsP crs; grind
    omega
  have cz : 0 < crsP (c (s - 1)) (c s) (d 1) := by
    have u := hc.up (s - 1) (by omega)
    have lft := hc.left (s - 1) (by omega)
    rw [Nat.sub_add_cancel hs] at u lft
    have v := dup 0 (by omega)
    rw [← e1] at v
    refine (corner (l := fun q => q ∈ l) u v hz lft (fun q hq => ?_) (dmem 1 (by omega))).resolve_right fun h => noline (hc.mem (s - 1) (by omega)) (hc.mem s (Nat.le_refl s)) u h
    have := dleft 0 (by omega) q hq
    rwa [← e1] at this
  have ca : 0 < crsP (d (t - 1)) (c 0) (c 1) := by
    have u := dup (t - 1) (by omega)
    have lft := dleft (t - 1) (by omega)
    rw [Nat.sub_add_cancel ht, ← e0] at u lft
    have v := hc.up 0 (by omega)
    have k := corner (l := fun q => q ∈ l.map ngP) (lt_ng.2 u) (lt_ng.2 v) (fun q hq => by
      obtain ⟨x, hx, rfl⟩ := List.mem_map.1 hq
      rcases ha x hx with rfl | h
      · exact .inl rfl
      · exact .inr (lt_ng.2 h)) (fun q hq => by
      obtain ⟨x, hx, rfl⟩ := List.mem_map.1 hq
      rw [crsP_ng]
      exact lft x hx) (fun q hq => by
      obtain ⟨x, hx, rfl⟩ := List.mem_map.1 hq
      rw [crsP_ng]
      exact hc.left 0 (by omega) x hx) (List.mem_map_of_mem (hc.mem 1 (by omega)))
    rw [crsP_ng] at k
    refine k.resolve_right fun h => noline (hc.mem 0 (by omega)) (dmem (t - 1) (by omega)) u fun q hq => ?_
    have := h (ngP q) (List.mem_map_of_mem hq)
    rw [crsP_ng] at this
    have : crsP (c 0) (d (t - 1)) q = -crsP (d (t - 1)) (c 0) q := by unfold crsP crs; grind
    omega
  have hlen : 3 ≤ r.length := by
    rw [hr]
    rcases Nat.lt_or_ge (s + t) 3 with k | k
    · exfalso
      obtain rfl : s = 1 := by omega
      obtain rfl : t = 1 := by omega
      rw [← e0] at cz
      have : crsP (c (1 - 1)) (c 1) (c 0) = 0 := by show crsP (c 0) (c 1) (c 0) = 0; unfold crsP crs; grind
      omega
    · exact k
  have mem : ∀ k, k < r.length → at_ r k ∈ l := fun k hk => by
    by_cases g : k < s
    · rw [hrc k g]
      exact hc.mem k (by omega)
    · have := hrd (k - s) (by omega)
      rw [show s + (k - s) = k by omega] at this
      rw [this]
      exact dmem _ (by omega)
  have edge : ∀ i, i < r.length → (∃ k, k < s ∧ i = k ∧ at_ r i = c k ∧ at_ r ((i + 1) % r.length) = c (k + 1)) ∨ ∃ k, k < t ∧ i = s + k ∧ at_ r i = d k ∧ at_ r ((i + 1) % r.length) = d (k + 1) := fun i hi => by
    by_cases g : i < s
    · exact .inl ⟨i, g, rfl, hrc i g, by rw [hr]; exact atc (i + 1) (by omega)⟩
    · refine .inr ⟨i - s, by omega, by omega, ?_, ?_⟩
      · have := hrd (i - s) (by omega)
        rwa [show s + (i - s) = i by omega] at this
      · have := atd (i - s + 1) (by omega)
        rwa [show s + (i - s + 1) = i + 1 by omega, ← hr] at this
  have all : ∀ x ∈ l, InP r x := fun x hx i hi => by
    rcases edge i hi with ⟨k, hk, _, g1, g2⟩ | ⟨k, hk, _, g1, g2⟩
    · rw [g1, g2]
      exact hc.left k hk x hx
    · rw [g1, g2]
      exact dleft k hk x hx
  refine ⟨conv_of hlen ?_ (fun k hk => all _ (mem k hk)) ?_, mem, all, fun k hk => ?_⟩
  · rintro i j k hi rfl rfl
    have hj : (i + 1) % r.length < r.length := Nat.mod_lt _ (by omega)
    have hm := mod_succ hi
    rcases edge i hi with ⟨a, hA, ea, g1, g2⟩ | ⟨a, hA, ea, g1, g2⟩
    · rcases edge _ hj with ⟨b, hB, eb, q1, q2⟩ | ⟨b, hB, eb, q1, q2⟩
      · have : b = a + 1 := by rw [eb] at hm; split at hm <;> omega
        subst this
        rw [g1, g2, q2]
        exact hc.turn a hB
      · have : b = 0 ∧ a + 1 = s := by rw [eb] at hm; split at hm <;> omega
        obtain ⟨rfl, rfl⟩ := this
        rw [g1, g2, q2]
        exact cz
    · rcases edge _ hj with ⟨b, hB, eb, q1, q2⟩ | ⟨b, hB, eb, q1, q2⟩
      · have : b = 0 ∧ a + 1 = t := by rw [eb] at hm; split at hm <;> omega
        obtain ⟨rfl, rfl⟩ := this
        rw [g1, q1, q2]
        exact ca
      · have : b = a + 1 := by rw [eb] at hm; split at hm <;> omega
        subst this
        rw [g1, g2, q2]
        exact dturn a hB
  · have cross : ∀ i j, i < s → j < t → c i ≠ d j := fun i j hi hj e => by
      by_cases i0 : i = 0
      · subst i0
        have := dinj _ _ (Nat.le_refl t) (by omega) (e0.symm.trans e)
        omega
      · by_cases j0 : j = 0
        · subst j0
          have := hc.inj (by omega) (Nat.le_refl s) (e.trans e1.symm)
          omega
        · obtain ⟨a, rfl⟩ : ∃ a, i = a + 1 := ⟨i - 1, by omega⟩
          obtain ⟨b, rfl⟩ : ∃ b, j = b + 1 := ⟨j - 1, by omega⟩
          have u := dup b (by omega)
          have f := dleft b (by omega)
          rw [← e] at u f
          exact no_both (hc.up a (by omega)) (hc.up (a + 1) (by omega)) u (hc.turn a (by omega)) (hc.left a (by omega) _ (dmem b (by omega))) (f _ (hc.mem a (by omega))) (f _ (hc.mem (a + 2) (by omega)))
    intro i j hi hj e
    rcases edge i hi with ⟨a, hA, rfl, g1, _⟩ | ⟨a, hA, rfl, g1, _⟩ <;> rcases edge j hj with ⟨b, hB, rfl, q1, _⟩ | ⟨b, hB, rfl, q1, _⟩
    · exact hc.inj (by omega) (by omega) (g1.symm.trans (e.trans q1))
    · exact absurd (g1.symm.trans (e.trans q1)) (cross _ _ hA hB)
    · exact absurd (q1.symm.trans (e.symm.trans g1)) (cross _ _ hB hA)
    · rw [dinj _ _ (by omega) (by omega) (g1.symm.trans (e.trans q1))]
  · rw [hrc 0 (by omega)]
    rcases ha _ (mem k hk) with h | h
    · rw [h]
      exact le_refl' _
    · unfold LtP at h
      unfold LeP
      omega
end Go.Proofs.Ythifljljaejfmaa.G
