/-
  hull, plain: the lower and the upper chain joined are the hull, unless all points lie on a line. No condition but those that stand.
  hull, plain: the hull of ascending points by two chains. No condition but those that stand.
  hull, plain: points that don't lie on a line have a hull; the hull of hulls; moved points. No condition but those that stand.
  hull, plain: the farthest vertex, the width, the diameter. No condition but those that stand.
  hull, plain: when all points lie on a line; a convex ring begun elsewhere; where a point lies. No condition but those that stand.
-/
import Derived.Test.YthbgapcplgigoaaK03
namespace Go.Proofs.Ythbgapcplgigoaa.G
open Go.RowKit Go.Proofs.Ythbgapcplgigoaa.V Go.Proofs.Ythbgapcplgigoaa.W

def ngP (a : Pt) : Pt := (-a.1, -a.2)
theorem ngP_ng (a : Pt) : ngP (ngP a) = a := Prod.ext (Int.neg_neg _) (Int.neg_neg _)
theorem crsP_ng (a b c : Pt) : crsP (ngP a) (ngP b) (ngP c) = crsP a b c := by unfold crsP crs ngP; grind
theorem lt_ng {a b : Pt} : LtP (ngP a) (ngP b) ↔ LtP b a := by unfold LtP ngP; simp only; omega
/-- the corner at the greatest point -/
theorem corner {l : Pt → Prop} {c z d : Pt} (hc : LtP c z) (hd : LtP d z) (hl : ∀ q, l q → q = z ∨ LtP q z) (h1 : ∀ q, l q → 0 ≤ crsP c z q) (h2 : ∀ q, l q → 0 ≤ crsP z d q) (md : l d) : 0 < crsP c z d ∨ ∀ q, l q → crsP c z q = 0 := by
  have g := h1 d md
  rcases Int.lt_or_le 0 (crsP c z d) with k | k
  · exact .inl k
  · refine .inr fun q hq => ?_
    rcases hl q hq with rfl | hlt
    · unfold crsP crs; grind
    · have e0 : crsP c z d = 0 := by omega
      have f1 := h1 q hq
      have f2 := h2 q hq
      have t := half_trans hc.fwd hd.fwd hlt.fwd (by
        have : (z.1 - c.1) * (z.2 - d.2) - (z.2 - c.2) * (z.1 - d.1) = -crsP c z d := by unfold crsP crs; grind
        omega) (by
        have : (z.1 - d.1) * (z.2 - q.2) - (z.2 - d.2) * (z.1 - q.1) = crsP z d q := by unfold crsP crs; grind
        omega)
      have : (z.1 - c.1) * (z.2 - q.2) - (z.2 - c.2) * (z.1 - q.1) = -crsP c z q := by unfold crsP crs; grind
      omega
/-- two points on a line that has two points -/
theorem line_cross {c z p q : Pt} (hc : LtP c z) (h : crsP c z p = 0) (g : crsP c z q = 0) : crsP z p q = 0 := by
  have e1 : (z.1 - c.1) * crsP z p q = 0 := by
    have : (z.1 - c.1) * crsP z p q = (p.1 - z.1) * crsP c z q - (q.1 - z.1) * crsP c z p := by unfold crsP crs; grind
    rw [this, h, g, Int.mul_zero, Int.mul_zero]; rfl
  have e2 : (z.2 - c.2) * crsP z p q = 0 := by
    have : (z.2 - c.2) * crsP z p q = (p.2 - z.2) * crsP c z q - (q.2 - z.2) * crsP c z p := by unfold crsP crs; grind
    rw [this, h, g, Int.mul_zero, Int.mul_zero]; rfl
  rcases Int.mul_eq_zero.1 e1 with k | k
  · rcases Int.mul_eq_zero.1 e2 with k' | k'
    · unfold LtP at hc; omega
    · exact k'
  · exact k
/-- no vertex of both chains but the ends -/
theorem no_both {c x c' w : Pt} (h1 : LtP c x) (h2 : LtP x c') (h3 : LtP x w) (ht : 0 < crsP c x c') (k1 : 0 ≤ crsP c x w) (k2 : 0 ≤ crsP w x c) (k3 : 0 ≤ crsP w x c') : False := by
  have e : crsP w x c = -crsP c x w := by unfold crsP crs; grind
  have t := half_strict (u1 := x.1 - c.1) (u2 := x.2 - c.2) (v1 := c'.1 - x.1) (v2 := c'.2 - x.2) (w1 := w.1 - x.1) (w2 := w.2 - x.2) h1.fwd h2.fwd h3.fwd (by rw [← crsP_at]; exact ht) (by
    have : (c'.1 - x.1) * (w.2 - x.2) - (c'.2 - x.2) * (w.1 - x.1) = crsP w x c' := by unfold crsP crs; grind
    omega)
  rw [← crsP_at] at t
  omega
/-- an ascending chain around the points of l, from below -/
structure Low (l : Pt → Prop) (c : Nat → Pt) (s : Nat) : Prop where
  up : ∀ i, i < s → LtP (c i) (c (i + 1))
  left : ∀ i, i < s → ∀ q, l q → 0 ≤ crsP (c i) (c (i + 1)) q
  turn : ∀ i, i + 1 < s → 0 < crsP (c i) (c (i + 1)) (c (i + 2))
  mem : ∀ i, i ≤ s → l (c i)
theorem Low.lt {l : Pt → Prop} {c : Nat → Pt} {s : Nat} (h : Low l c s) {i : Nat} : ∀ j, i < j → j ≤ s → LtP (c i) (c j)
  | 0, hij, _ => absurd hij (Nat.not_lt_zero i)
  | j + 1, hij, hj => by
    by_cases e : i = j
    · subst e
      exact h.up i (by omega)
    · exact (h.lt j (by omega) (by omega)).trans (h.up j (by omega))
theorem not_ltP (a : Pt) : ¬ LtP a a := by unfold LtP; omega
theorem Low.inj {l : Pt → Prop} {c : Nat → Pt} {s : Nat} (h : Low l c s) {i j : Nat} (hi : i ≤ s) (hj : j ≤ s) (e : c i = c j) : i = j := by
  rcases Nat.lt_trichotomy i j with k | k | k
  · have := h.lt j k hj
    rw [e] at this
    exact absurd this (not_ltP _)
  · exact k
  · have := h.lt i k hi
    rw [e] at this
    exact absurd this (not_ltP _)
/-- the ring of two chains -/
theorem join_hull {l r : List Pt} {c d : Nat → Pt} {s t : Nat} (hs : 1 ≤ s) (ht : 1 ≤ t) (hc : Low (fun q => q ∈ l) c s) (hd : Low (fun q => q ∈ l.map ngP) (fun i => ngP (d i)) t) (e0 : c 0 = d t) (e1 : c s = d 0)
    (ha : ∀ q ∈ l, q = c 0 ∨ LtP (c 0) q) (hz : ∀ q ∈ l, q = c s ∨ LtP q (c s)) (hn : ∃ q ∈ l, crsP (c 0) (c s) q ≠ 0)
    (hr : r.length = s + t) (hrc : ∀ i, i < s → at_ r i = c i) (hrd : ∀ i, i < t → at_ r (s + i) = d i) : HullP l r := by
  have dmem : ∀ i, i ≤ t → d i ∈ l := fun i hi => by
    obtain ⟨q, hq, e⟩ := List.mem_map.1 (hd.mem i hi)
    have : q = d i := by rw [← ngP_ng q, e, ngP_ng]
    exact this ▸ hq
  have dup : ∀ i, i < t → LtP (d (i + 1)) (d i) := fun i hi => lt_ng.1 (hd.up i hi)
  have dleft : ∀ i, i < t → ∀ q ∈ l, 0 ≤ crsP (d i) (d (i + 1)) q := fun i hi q hq => by
    have := hd.left i hi (ngP q) (List.mem_map_of_mem hq)
    rwa [crsP_ng] at this
  have dturn : ∀ i, i + 1 < t → 0 < crsP (d i) (d (i + 1)) (d (i + 2)) := fun i hi => by
    have := hd.turn i hi
    rwa [crsP_ng] at this
  have dinj : ∀ i j, i ≤ t → j ≤ t → d i = d j → i = j := fun i j hi hj e => hd.inj hi hj (by show ngP (d i) = ngP (d j); rw [e])
  -- the vertices, with both ends
  have atc : ∀ i, i ≤ s → at_ r (i % (s + t)) = c i := fun i hi => by
    rw [Nat.mod_eq_of_lt (by omega)]
    by_cases k : i < s
    · exact hrc i k
    · obtain rfl : i = s := by omega
      have := hrd 0 (by omega)
      rw [Nat.add_zero] at this
      rw [this, e1]
  have atd : ∀ i, i ≤ t → at_ r ((s + i) % (s + t)) = d i := fun i hi => by
    by_cases k : i < t
    · rw [Nat.mod_eq_of_lt (by omega)]
      exact hrd i k
    · obtain rfl : i = t := by omega
      rw [Nat.mod_self, hrc 0 (by omega), e0]
  -- no line
  have noline : ∀ {x y : Pt}, x ∈ l → y ∈ l → LtP x y → (∀ q ∈ l, crsP x y q = 0) → False := fun {x y} hx hy hlt h => by
    obtain ⟨q, hq, hne⟩ := hn
    have a1 := line_cross hlt (h _ (hc.mem 0 (by omega))) (h _ (hc.mem s (Nat.le_refl s)))
    have a2 := line_cross hlt (h _ (hc.mem 0 (by omega))) (h q hq)
    have a3 := line_cross hlt (h _ (hc.mem s (Nat.le_refl s))) (h q hq)
    refine hne ?_
    have : crsP (c 0) (c s) q = crsP y (c 0) (c s) + crsP y (c s) q - crsP y (c 0) q := by unfold crsP crs; grind
    omega
  have cz : 0 < crsP (c (s - 1)) (c s) (d 1) := by
    have u := hc.up (s - 1) (by omega)
    have lft := hc.left (s - 1) (by omega)
    rw [Nat.sub_add_cancel hs] at u lft
    have v := dup 0 (by omega)
    rw [← e1] at v
    refine (corner (l := fun q => q ∈ l) u v hz lft (fun q hq => ?_) (dmem 1 (by omega))).resolve_right fun h => noline (hc.mem (s - 1) (by omega)) (hc.mem s (Nat.le_refl s)) u h
    have := dleft 0 (by omega) q hq
    rwa [← e1] at this
  have ca : 0 < crsP (d (t - 1)) (c 0) (c 1) := by
    have u := dup (t - 1) (by omega)
    have lft := dleft (t - 1) (by omega)
    rw [Nat.sub_add_cancel ht, ← e0] at u lft
    have v := hc.up 0 (by omega)
    have k := corner (l := fun q => q ∈ l.map ngP) (lt_ng.2 u) (lt_ng.2 v) (fun q hq => by
      obtain ⟨x, hx, rfl⟩ := List.mem_map.1 hq
      rcases ha x hx with rfl | h
      · exact .inl rfl
      · exact .inr (lt_ng.2 h)) (fun q hq => by
      obtain ⟨x, hx, rfl⟩ := List.mem_map.1 hq
      rw [crsP_ng]
      exact lft x hx) (fun q hq => by
      obtain ⟨x, hx, rfl⟩ := List.mem_map.1 hq
      rw [crsP_ng]
      exact hc.left 0 (by omega) x hx) (List.mem_map_of_mem (hc.mem 1 (by omega)))
    rw [crsP_ng] at k
    refine k.resolve_right fun h => noline (hc.mem 0 (by omega)) (dmem (t - 1) (by omega)) u fun q hq => ?_
    have := h (ngP q) (List.mem_map_of_mem hq)
    rw [crsP_ng] at this
    have : crsP (c 0) (d (t - 1)) q = -crsP (d (t - 1)) (c 0) q := by unfold crsP crs; grind
    omega
  have hlen : 3 ≤ r.length := by
    rw [hr]
    rcases Nat.lt_or_ge (s + t) 3 with k | k
    · exfalso
      obtain rfl : s = 1 := by omega
      obtain rfl : t = 1 := by omega
      rw [← e0] at cz
      have : crsP (c (1 - 1)) (c 1) (c 0) = 0 := by show crsP (c 0) (c 1) (c 0) = 0; unfold crsP crs; grind
      omega
    · exact k
  have mem : ∀ k, k < r.length → at_ r k ∈ l := fun k hk => by
    by_cases g : k < s
    · rw [hrc k g]
      exact hc.mem k (by omega)
    · have := hrd (k - s) (by omega)
      rw [show s + (k - s) = k by omega] at this
      rw [this]
      exact dmem _ (by omega)
  have edge : ∀ i, i < r.length → (∃ k, k < s ∧ i = k ∧ at_ r i = c k ∧ at_ r ((i + 1) % r.length) = c (k + 1)) ∨ ∃ k, k < t ∧ i = s + k ∧ at_ r i = d k ∧ at_ r ((i + 1) % r.length) = d (k + 1) := fun i hi => by
    by_cases g : i < s
    · exact .inl ⟨i, g, rfl, hrc i g, by rw [hr]; exact atc (i + 1) (by omega)⟩
    · refine .inr ⟨i - s, by omega, by omega, ?_, ?_⟩
      · have := hrd (i - s) (by omega)
        rwa [show s + (i - s) = i by omega] at this
      · have := atd (i - s + 1) (by omega)
        rwa [show s + (i - s + 1) = i + 1 by omega, ← hr] at this
  have all : ∀ x ∈ l, InP r x := fun x hx i hi => by
    rcases edge i hi with ⟨k, hk, _, g1, g2⟩ | ⟨k, hk, _, g1, g2⟩
    · rw [g1, g2]
      exact hc.left k hk x hx
    · rw [g1, g2]
      exact dleft k hk x hx
  refine ⟨conv_of hlen ?_ (fun k hk => all _ (mem k hk)) ?_, mem, all, fun k hk => ?_⟩
  · rintro i j k hi rfl rfl
    have hj : (i + 1) % r.length < r.length := Nat.mod_lt _ (by omega)
    have hm := mod_succ hi
    rcases edge i hi with ⟨a, hA, ea, g1, g2⟩ | ⟨a, hA, ea, g1, g2⟩
    · rcases edge _ hj with ⟨b, hB, eb, q1, q2⟩ | ⟨b, hB, eb, q1, q2⟩
      · have : b = a + 1 := by rw [eb] at hm; split at hm <;> omega
        subst this
        rw [g1, g2, q2]
        exact hc.turn a hB
      · have : b = 0 ∧ a + 1 = s := by rw [eb] at hm; split at hm <;> omega
        obtain ⟨rfl, rfl⟩ := this
        rw [g1, g2, q2]
        exact cz
    · rcases edge _ hj with ⟨b, hB, eb, q1, q2⟩ | ⟨b, hB, eb, q1, q2⟩
      · have : b = 0 ∧ a + 1 = t := by rw [eb] at hm; split at hm <;> omega
        obtain ⟨rfl, rfl⟩ := this
        rw [g1, q1, q2]
        exact ca
      · have : b = a + 1 := by rw [eb] at hm; split at hm <;> omega
        subst this
        rw [g1, g2, q2]
        exact dturn a hB
  · have cross : ∀ i j, i < s → j < t → c i ≠ d j := fun i j hi hj e => by
      by_cases i0 : i = 0
      · subst i0
        have := dinj _ _ (Nat.le_refl t) (by omega) (e0.symm.trans e)
        omega
      · by_cases j0 : j = 0
        · subst j0
          have := hc.inj (by omega) (Nat.le_refl s) (e.trans e1.symm)
          omega
        · obtain ⟨a, rfl⟩ : ∃ a, i = a + 1 := ⟨i - 1, by omega⟩
          obtain ⟨b, rfl⟩ : ∃ b, j = b + 1 := ⟨j - 1, by omega⟩
          have u := dup b (by omega)
          have f := dleft b (by omega)
          rw [← e] at u f
          exact no_both (hc.up a (by omega)) (hc.up (a + 1) (by omega)) u (hc.turn a (by omega)) (hc.left a (by omega) _ (dmem b (by omega))) (f _ (hc.mem a (by omega))) (f _ (hc.mem (a + 2) (by omega)))
    intro i j hi hj e
    rcases edge i hi with ⟨a, hA, rfl, g1, _⟩ | ⟨a, hA, rfl, g1, _⟩ <;> rcases edge j hj with ⟨b, hB, rfl, q1, _⟩ | ⟨b, hB, rfl, q1, _⟩
    · exact hc.inj (by omega) (by omega) (g1.symm.trans (e.trans q1))
    · exact absurd (g1.symm.trans (e.trans q1)) (cross _ _ hA hB)
    · exact absurd (q1.symm.trans (e.symm.trans g1)) (cross _ _ hB hA)
    · rw [dinj _ _ (by omega) (by omega) (g1.symm.trans (e.trans q1))]
  · rw [hrc 0 (by omega)]
    rcases ha _ (mem k hk) with h | h
    · rw [h]
      exact le_refl' _
    · unfold LtP at h
      unfold LeP
      omega
end Go.Proofs.Ythbgapcplgigoaa.G

namespace Go.Proofs.Ythbgapcplgigoaa.G
open Go.RowKit Go.Proofs.Ythbgapcplgigoaa.V Go.Proofs.Ythbgapcplgigoaa.W

theorem at_lt {l : List Pt} {i : Nat} (h : i < l.length) : at_ l i = l[i] := by
  unfold at_
  rw [List.getD_eq_getElem?_getD, List.getElem?_eq_getElem h]; rfl
theorem at_rev {l : List Pt} {i : Nat} (h : i < l.length) : at_ l.reverse i = at_ l (l.length - 1 - i) := by
  rw [at_lt (by simpa using h), at_lt (by omega), List.getElem_reverse]
theorem good_at {P : Pt → Prop} : ∀ (S : List Pt) (j : Nat), Good P S → j + 1 < S.length → LtP (at_ S (j + 1)) (at_ S j) ∧ (∀ q, P q → 0 ≤ crsP (at_ S (j + 1)) (at_ S j) q) ∧ (j + 2 < S.length → 0 < crsP (at_ S (j + 2)) (at_ S (j + 1)) (at_ S j))
  | [], _, _, h => absurd h (Nat.not_lt_zero _)
  | [_], _, _, h => absurd h (by simp)
  | b :: a :: r, 0, h, _ => ⟨h.1, h.2.1, fun hl => by
    match r, h, hl with
    | z :: r, h, _ => exact h.2.2.1 z rfl
    | [], _, hl => exact absurd hl (by simp)⟩
  | b :: a :: r, j + 1, h, hl => good_at (a :: r) j h.2.2.2 (by simp only [List.length_cons] at hl ⊢; omega)|>.imp id fun g => ⟨g.1, fun k => g.2 (by simp only [List.length_cons] at k ⊢; omega)⟩
theorem good_low {P : Pt → Prop} {S : List Pt} (h : Good P S) (hm : ∀ x ∈ S, P x) (hn : S ≠ []) : Low P (fun i => at_ S.reverse i) (S.length - 1) := by
  have hl : 0 < S.length := List.length_pos_iff.2 hn
  refine ⟨fun i hi => ?_, fun i hi => ?_, fun i hi => ?_, fun i hi => ?_⟩
  · have g := (good_at S (S.length - 1 - (i + 1)) h (by omega)).1
    show LtP (at_ S.reverse i) (at_ S.reverse (i + 1))
    rw [at_rev (by omega), at_rev (by omega)]
    rwa [show S.length - 1 - (i + 1) + 1 = S.length - 1 - i by omega] at g
  · have g := (good_at S (S.length - 1 - (i + 1)) h (by omega)).2.1
    show ∀ q, P q → 0 ≤ crsP (at_ S.reverse i) (at_ S.reverse (i + 1)) q
    rw [at_rev (by omega), at_rev (by omega)]
    rwa [show S.length - 1 - (i + 1) + 1 = S.length - 1 - i by omega] at g
  · have g := (good_at S (S.length - 1 - (i + 2)) h (by omega)).2.2 (by omega)
    show 0 < crsP (at_ S.reverse i) (at_ S.reverse (i + 1)) (at_ S.reverse (i + 2))
    rw [at_rev (by omega), at_rev (by omega), at_rev (by omega)]
    rwa [show S.length - 1 - (i + 2) + 2 = S.length - 1 - i by omega, show S.length - 1 - (i + 2) + 1 = S.length - 1 - (i + 1) by omega] at g
  · show P (at_ S.reverse i)
    rw [at_rev (by omega), at_lt (by omega)]
    exact hm _ (List.getElem_mem _)
theorem at_last {l : List Pt} {z : Pt} (h : l.getLast? = some z) : at_ l (l.length - 1) = z := by
  have hn : l ≠ [] := by intro e; rw [e] at h; cases h
  have hl : 0 < l.length := List.length_pos_iff.2 hn
  rw [at_lt (by omega)]
  rw [List.getLast?_eq_some_getLast hn, List.getLast_eq_getElem] at h
  exact Option.some.inj h
theorem at_head {l : List Pt} {z : Pt} (h : l.head? = some z) : at_ l 0 = z := by
  cases l with
  | nil => cases h
  | cons a l => exact Option.some.inj h
theorem rev_head {l : List Pt} : l.reverse.head? = l.getLast? := by simp
theorem rev_last {l : List Pt} : l.reverse.getLast? = l.head? := by simp
/-- the lower chain, the upper chain; each with its first point first -/
def lowC (l : List Pt) : List Pt := (chainC l).reverse
def uppC (l : List Pt) : List Pt := (lowC (l.reverse.map ngP)).map ngP
theorem asc_ng {l : List Pt} (h : l.Pairwise LtP) : (l.reverse.map ngP).Pairwise LtP := by
  rw [List.pairwise_map, List.pairwise_reverse]
  exact h.imp fun {a b} hab => lt_ng.2 hab
theorem lowC_all {l : List Pt} (hs : l.Pairwise LtP) (hn : l ≠ []) : Low (fun q => q ∈ l) (fun i => at_ (lowC l) i) ((lowC l).length - 1) ∧ (lowC l).head? = l.head? ∧ (lowC l).getLast? = l.getLast? ∧ lowC l ≠ [] ∧ ∀ x ∈ lowC l, x ∈ l := by
  cases l with
  | nil => exact absurd rfl hn
  | cons a l =>
    obtain ⟨g, m, e1, e2, e3⟩ := chain_all hs
    refine ⟨?_, ?_, ?_, ?_, ?_⟩
    · have := good_low g m e3
      unfold lowC
      rwa [List.length_reverse]
    · unfold lowC
      rw [rev_head, e1]; rfl
    · unfold lowC
      rw [rev_last, e2]
    · unfold lowC
      simpa using e3
    · intro x hx
      exact m x (by unfold lowC at hx; simpa using hx)
theorem at_map {l : List Pt} {i : Nat} (h : i < l.length) : at_ (l.map ngP) i = ngP (at_ l i) := by
  rw [at_lt (by simpa using h), at_lt h, List.getElem_map]
theorem at_app_l {a b : List Pt} {i : Nat} (h : i < a.length) : at_ (a ++ b) i = at_ a i := by
  rw [at_lt (by rw [List.length_append]; omega), at_lt h, List.getElem_append_left h]
theorem at_app_r {a b : List Pt} {i : Nat} (h : i < b.length) : at_ (a ++ b) (a.length + i) = at_ b i := by
  rw [at_lt (by rw [List.length_append]; omega), at_lt h, List.getElem_append_right (by omega)]
  congr 1
  omega
theorem at_drop {a : List Pt} {i : Nat} (h : i < a.length - 1) : at_ a.dropLast i = at_ a i := by
  rw [at_lt (by rw [List.length_dropLast]; omega), at_lt (by omega), List.getElem_dropLast]
def ringC (l : List Pt) : List Pt := (lowC l).dropLast ++ (uppC l).dropLast
/-- the two chains of ascending points that don't lie on a line are their hull -/
theorem ring_hull {a z : Pt} {l : List Pt} (hs : l.Pairwise LtP) (ha : l.head? = some a) (hz : l.getLast? = some z) (hn : ∃ q ∈ l, crsP a z q ≠ 0) : HullP l (ringC l) := by
  have hne : l ≠ [] := by intro e; rw [e] at ha; cases ha
  have hne' : l.reverse.map ngP ≠ [] := by simpa using hne
  obtain ⟨c, c1, c2, c3, c4⟩ := lowC_all hs hne
  obtain ⟨d, d1, d2, d3, d4⟩ := lowC_all (asc_ng hs) hne'
  rw [ha] at c1
  rw [hz] at c2
  have d1' : (lowC (l.reverse.map ngP)).head? = some (ngP z) := by rw [d1, List.head?_map, rev_head, hz]; rfl
  have d2' : (lowC (l.reverse.map ngP)).getLast? = some (ngP a) := by rw [d2, List.getLast?_map, rev_last, ha]; rfl
  have cl : 0 < (lowC l).length := List.length_pos_iff.2 c3
  have dl : 0 < (lowC (l.reverse.map ngP)).length := List.length_pos_iff.2 d3
  have ul : (uppC l).length = (lowC (l.reverse.map ngP)).length := by unfold uppC; rw [List.length_map]
  have haz : a ≠ z := by
    rintro rfl
    obtain ⟨q, _, h⟩ := hn
    refine h ?_
    unfold crsP crs; grind
  have s1 : 1 ≤ (lowC l).length - 1 := by
    rcases Nat.lt_or_ge ((lowC l).length - 1) 1 with k | k
    · exfalso
      have e1 := at_head c1
      have e2 := at_last c2
      rw [show (lowC l).length - 1 = 0 by omega, e1] at e2
      exact haz e2
    · exact k
  have t1 : 1 ≤ (lowC (l.reverse.map ngP)).length - 1 := by
    rcases Nat.lt_or_ge ((lowC (l.reverse.map ngP)).length - 1) 1 with k | k
    · exfalso
      have e1 := at_head d1'
      have e2 := at_last d2'
      rw [show (lowC (l.reverse.map ngP)).length - 1 = 0 by omega, e1] at e2
      have := congrArg ngP e2
      rw [ngP_ng, ngP_ng] at this
      exact haz this.symm
    · exact k
  have ua : ∀ i, i < (lowC (l.reverse.map ngP)).length → at_ (uppC l) i = ngP (at_ (lowC (l.reverse.map ngP)) i) := fun i hi => by
    unfold uppC
    exact at_map hi
  have hd : Low (fun q => q ∈ l.map ngP) (fun i => ngP (at_ (uppC l) i)) ((lowC (l.reverse.map ngP)).length - 1) := by
    have e : (fun q => q ∈ l.reverse.map ngP) = fun q => q ∈ l.map ngP := by
      funext q
      simp
    rw [e] at d
    have ew : ∀ i, i ≤ (lowC (l.reverse.map ngP)).length - 1 → ngP (at_ (uppC l) i) = at_ (lowC (l.reverse.map ngP)) i := fun i hi => by
      rw [ua i (by omega), ngP_ng]
    refine ⟨fun i hi => ?_, fun i hi q hq => ?_, fun i hi => ?_, fun i hi => ?_⟩
    · show LtP (ngP (at_ (uppC l) i)) (ngP (at_ (uppC l) (i + 1)))
      rw [ew i (by omega), ew (i + 1) (by omega)]
      exact d.up i hi
    · show 0 ≤ crsP (ngP (at_ (uppC l) i)) (ngP (at_ (uppC l) (i + 1))) q
      rw [ew i (by omega), ew (i + 1) (by omega)]
      exact d.left i hi q hq
    · show 0 < crsP (ngP (at_ (uppC l) i)) (ngP (at_ (uppC l) (i + 1))) (ngP (at_ (uppC l) (i + 2)))
      rw [ew i (by omega), ew (i + 1) (by omega), ew (i + 2) (by omega)]
      exact d.turn i hi
    · show ngP (at_ (uppC l) i) ∈ l.map ngP
      rw [ew i hi]
      exact d.mem i hi
  have f0 : at_ (lowC l) 0 = a := at_head c1
  have fs : at_ (lowC l) ((lowC l).length - 1) = z := at_last c2
  have g0 : at_ (uppC l) 0 = z := by rw [ua 0 dl, at_head d1', ngP_ng]
  have gt : at_ (uppC l) ((lowC (l.reverse.map ngP)).length - 1) = a := by rw [ua _ (by omega), at_last d2', ngP_ng]
  refine join_hull (c := fun i => at_ (lowC l) i) (d := fun i => at_ (uppC l) i) s1 t1 c hd (f0.trans gt.symm) (fs.trans g0.symm) ?_ ?_ ?_ ?_ ?_ ?_
  · intro q hq
    show q = at_ (lowC l) 0 ∨ LtP (at_ (lowC l) 0) q
    rw [f0]
    match l, hs, ha, hq with
    | y :: m, hs, ha, hq =>
      obtain rfl : y = a := by simpa using ha
      rcases List.mem_cons.1 hq with e | e
      · exact .inl e
      · exact .inr ((List.pairwise_cons.1 hs).1 q e)
  · intro q hq
    show q = at_ (lowC l) ((lowC l).length - 1) ∨ LtP q (at_ (lowC l) ((lowC l).length - 1))
    rw [fs]
    have e := List.dropLast_concat_getLast hne
    rw [List.getLast?_eq_some_getLast hne] at hz
    rw [Option.some.inj hz] at e
    rw [← e] at hq hs
    rcases List.mem_append.1 hq with h | h
    · exact .inr ((List.pairwise_append.1 hs).2.2 q h z List.mem_cons_self)
    · exact .inl (by simpa using h)
  · obtain ⟨q, hq, h⟩ := hn
    refine ⟨q, hq, ?_⟩
    show crsP (at_ (lowC l) 0) (at_ (lowC l) ((lowC l).length - 1)) q ≠ 0
    rwa [f0, fs]
  · unfold ringC
    rw [List.length_append, List.length_dropLast, List.length_dropLast, ul]
  · intro i hi
    unfold ringC
    rw [at_app_l (by rw [List.length_dropLast]; exact hi), at_drop hi]
  · intro i hi
    have := at_app_r (a := (lowC l).dropLast) (b := (uppC l).dropLast) (i := i) (by rw [List.length_dropLast, ul]; exact hi)
    rw [List.length_dropLast] at this
    unfold ringC
    rw [this, at_drop (by rw [ul]; exact hi)]
/-- and if all lie on a line, there are two points at most -/
theorem ring_line {a z : Pt} {l : List Pt} (hs : l.Pairwise LtP) (ha : l.head? = some a) (hz : l.getLast? = some z) (hn : ∀ q ∈ l, crsP a z q = 0) : (ringC l).length ≤ 2 := by
  have hne : l ≠ [] := by intro e; rw [e] at ha; cases ha
  have hne' : l.reverse.map ngP ≠ [] := by simpa using hne
  obtain ⟨c, c1, c2, c3, c4⟩ := lowC_all hs hne
  obtain ⟨d, d1, d2, d3, d4⟩ := lowC_all (asc_ng hs) hne'
  rw [ha] at c1
  rw [hz] at c2
  have d1' : (lowC (l.reverse.map ngP)).head? = some (ngP z) := by rw [d1, List.head?_map, rev_head, hz]; rfl
  have d2' : (lowC (l.reverse.map ngP)).getLast? = some (ngP a) := by rw [d2, List.getLast?_map, rev_last, ha]; rfl
  have flat : LtP a z → ∀ x y w, x ∈ l → y ∈ l → w ∈ l → crsP x y w = 0 := fun hlt x y w hx hy hw => by
    have a1 := line_cross hlt (hn x hx) (hn y hy)
    have a2 := line_cross hlt (hn y hy) (hn w hw)
    have a3 := line_cross hlt (hn x hx) (hn w hw)
    have : crsP x y w = crsP z x y + crsP z y w - crsP z x w := by unfold crsP crs; grind
    omega
  have k1 : (lowC l).length - 1 < 2 := by
    rcases Nat.lt_or_ge ((lowC l).length - 1) 2 with k | k
    · exact k
    · exfalso
      have hlt : LtP (at_ (lowC l) 0) (at_ (lowC l) ((lowC l).length - 1)) := c.lt _ (by omega) (Nat.le_refl _)
      rw [at_head c1, at_last c2] at hlt
      have t := c.turn 0 (by omega)
      rw [flat hlt _ _ _ (c.mem 0 (by omega)) (c.mem 1 (by omega)) (c.mem 2 (by omega))] at t
      omega
  have k2 : (lowC (l.reverse.map ngP)).length - 1 < 2 := by
    rcases Nat.lt_or_ge ((lowC (l.reverse.map ngP)).length - 1) 2 with k | k
    · exact k
    · exfalso
      have hlt : LtP (at_ (lowC (l.reverse.map ngP)) 0) (at_ (lowC (l.reverse.map ngP)) ((lowC (l.reverse.map ngP)).length - 1)) := d.lt _ (by omega) (Nat.le_refl _)
      rw [at_head d1', at_last d2'] at hlt
      have mem : ∀ i, i ≤ (lowC (l.reverse.map ngP)).length - 1 → ∃ x ∈ l, at_ (lowC (l.reverse.map ngP)) i = ngP x := fun i hi => by
        have := d.mem i hi
        obtain ⟨x, hx, e⟩ := List.mem_map.1 this
        exact ⟨x, by simpa using hx, e.symm⟩
      have t : 0 < crsP (at_ (lowC (l.reverse.map ngP)) 0) (at_ (lowC (l.reverse.map ngP)) 1) (at_ (lowC (l.reverse.map ngP)) 2) := d.turn 0 (by omega)
      obtain ⟨x, hx, ex⟩ := mem 0 (by omega)
      obtain ⟨y, hy, ey⟩ := mem 1 (by omega)
      obtain ⟨w, hw, ew⟩ := mem 2 (by omega)
      rw [ex, ey, ew, crsP_ng, flat (lt_ng.1 hlt) _ _ _ hx hy hw] at t
      omega
  unfold ringC uppC
  rw [List.length_append, List.length_dropLast, List.length_dropLast, List.length_map]
  omega
end Go.Proofs.Ythbgapcplgigoaa.G

namespace Go.Proofs.Ythbgapcplgigoaa.G
open Go.RowKit Go.Proofs.Ythbgapcplgigoaa.V Go.Proofs.Ythbgapcplgigoaa.W

instance (a b : Pt) : Decidable (LtP a b) := by unfold LtP; exact inferInstance
/-- ascending, each point once -/
def insP (p : Pt) : List Pt → List Pt
  | [] => [p]
  | a :: l => if LtP p a then p :: a :: l else if p = a then a :: l else a :: insP p l
def ascP (l : List Pt) : List Pt := l.foldr insP []
theorem insP_mem {p x : Pt} : ∀ {l : List Pt}, x ∈ insP p l ↔ x = p ∨ x ∈ l
  | [] => by simp [insP]
  | a :: l => by
    unfold insP
    split
    · simp
    · split
      · rename_i h; subst h; simp
      · rw [List.mem_cons, insP_mem (l := l), List.mem_cons]
        constructor
        · rintro (h | h | h)
          · exact .inr (.inl h)
          · exact .inl h
          · exact .inr (.inr h)
        · rintro (h | h | h)
          · exact .inr (.inl h)
          · exact .inl h
          · exact .inr (.inr h)
theorem insP_asc {p : Pt} : ∀ {l : List Pt}, l.Pairwise LtP → (insP p l).Pairwise LtP
  | [], _ => by simp [insP]
  | a :: l, h => by
    obtain ⟨h1, h2⟩ := List.pairwise_cons.1 h
    unfold insP
    split
    · rename_i k
      refine List.pairwise_cons.2 ⟨fun q hq => ?_, h⟩
      rcases List.mem_cons.1 hq with rfl | e
      · exact k
      · exact k.trans (h1 q e)
    · rename_i k
      split
      · exact h
      · rename_i k'
        refine List.pairwise_cons.2 ⟨fun q hq => ?_, insP_asc h2⟩
        rcases insP_mem.1 hq with rfl | e
        · exact ((lt_tri q a).resolve_left k).resolve_left k'
        · exact h1 q e
theorem ascP_mem {x : Pt} : ∀ {l : List Pt}, x ∈ ascP l ↔ x ∈ l
  | [] => Iff.rfl
  | a :: l => by
    show x ∈ insP a (ascP l) ↔ _
    rw [insP_mem, ascP_mem (l := l), List.mem_cons]
theorem ascP_asc : ∀ (l : List Pt), (ascP l).Pairwise LtP
  | [] => List.Pairwise.nil
  | _ :: l => insP_asc (ascP_asc l)
/-- only the points count -/
theorem HullP.iff {l m r : List Pt} (h : ∀ x, x ∈ l ↔ x ∈ m) (g : HullP l r) : HullP m r :=
  ⟨g.conv, fun k hk => (h _).1 (g.mem k hk), fun x hx => g.all x ((h x).2 hx), g.low⟩
/-- all points on a line -/
def FlatP (l : List Pt) : Prop := ∀ x y w, x ∈ l → y ∈ l → w ∈ l → crsP x y w = 0
theorem HullP.bend {l r : List Pt} (h : HullP l r) : ¬ FlatP l := fun f => by
  have h3 := h.conv.1
  have g := h.conv.2 0 2 (by omega) (by omega) (by omega) (by rw [Nat.mod_eq_of_lt (by omega)]; omega)
  rw [f _ _ _ (h.mem _ (by omega)) (h.mem _ (Nat.mod_lt _ (by omega))) (h.mem _ (by omega))] at g
  omega
/-- the line of the least and the greatest point -/
theorem ends_flat {a z : Pt} {l : List Pt} (hs : l.Pairwise LtP) (ha : l.head? = some a) (hz : l.getLast? = some z) (hn : ∀ q ∈ l, crsP a z q = 0) : FlatP l := by
  have hne : l ≠ [] := by intro e; rw [e] at ha; cases ha
  match l, hs, ha, hz, hn with
  | y :: [], _, _, _, _ => 
    intro p q w hp hq hw
    rw [List.mem_singleton] at hp hq hw
    subst hp hq hw
    unfold crsP crs; grind
  | y :: y' :: m, hs, ha, hz, hn =>
    obtain rfl : y = a := by simpa using ha
    have hlt : LtP y z := by
      rw [List.getLast?_cons_cons] at hz
      have : z ∈ y' :: m := List.mem_of_getLast? hz
      exact (List.pairwise_cons.1 hs).1 z this
    intro x p w hx hp hw
    have a1 := line_cross hlt (hn x hx) (hn p hp)
    have a2 := line_cross hlt (hn p hp) (hn w hw)
    have a3 := line_cross hlt (hn x hx) (hn w hw)
    have : crsP x p w = crsP z x p + crsP z p w - crsP z x w := by unfold crsP crs; grind
    omega
/-- what does not lie on a line has a hull -/
theorem hull_exists {l : List Pt} (h : ¬ FlatP l) : HullP l (ringC (ascP l)) := by
  have hm : ∀ x, x ∈ ascP l ↔ x ∈ l := fun x => ascP_mem
  have hne : ascP l ≠ [] := by
    intro e
    refine h fun x y w hx _ _ => ?_
    have := (hm x).2 hx
    rw [e] at this
    cases this
  refine HullP.iff hm ?_
  have ha : (ascP l).head? = some ((ascP l).head hne) := (List.head?_eq_some_head hne)
  have hz : (ascP l).getLast? = some ((ascP l).getLast hne) := List.getLast?_eq_some_getLast hne
  refine ring_hull (ascP_asc l) ha hz ?_
  refine Classical.byContradiction fun k => h ?_
  have f := ends_flat (ascP_asc l) ha hz fun q hq => Classical.byContradiction fun e => k ⟨q, hq, e⟩
  exact fun x y w hx hy hw => f x y w ((hm x).2 hx) ((hm y).2 hy) ((hm w).2 hw)
theorem vx_mem {l : List Pt} {k : Nat} (h : k < l.length) : at_ l k ∈ l := by
  rw [at_lt h]
  exact List.getElem_mem _
theorem vx_at {l : List Pt} {x : Pt} (h : x ∈ l) : ∃ k, k < l.length ∧ at_ l k = x := by
  obtain ⟨k, hk, e⟩ := List.mem_iff_getElem.1 h
  exact ⟨k, hk, by rw [at_lt hk, e]⟩
theorem HullP.sub {l r : List Pt} (h : HullP l r) {x : Pt} (hx : x ∈ r) : x ∈ l := by
  obtain ⟨k, hk, rfl⟩ := vx_at hx
  exact h.mem k hk
/-- a convex ring's own hull -/
theorem HullP.self {l r : List Pt} (h : HullP l r) : HullP r r := ⟨h.conv, fun _ hk => vx_mem hk, fun x hx => h.all x (h.sub hx), h.low⟩
/-- more points within the hull -/
theorem HullP.more {l m r c : List Pt} (h : HullP l r) (hc : HullP m c) (hs : ∀ x ∈ m, x ∈ l) (hr : ∀ x ∈ r, x ∈ m) : HullP l c :=
  ⟨hc.conv, fun k hk => hs _ (hc.mem k hk), fun _ hx => in_sub h.conv (fun _ hk => hc.all _ (hr _ (vx_mem hk))) (h.all _ hx), hc.low⟩
/-- the hull of two lists is that of both hulls -/
theorem HullP.both {l m r s : List Pt} (h : HullP l r) (g : HullP m s) : HullP (l ++ m) (ringC (ascP (r ++ s))) ∧ HullP (r ++ s) (ringC (ascP (r ++ s))) := by
  have nf : ¬ FlatP (r ++ s) := fun f => h.self.bend fun x y w hx hy hw => f x y w (List.mem_append_left _ hx) (List.mem_append_left _ hy) (List.mem_append_left _ hw)
  have hc := hull_exists nf
  refine ⟨⟨hc.conv, fun k hk => ?_, fun x hx => ?_, hc.low⟩, hc⟩
  · rcases List.mem_append.1 (hc.mem k hk) with e | e
    · exact List.mem_append_left _ (h.sub e)
    · exact List.mem_append_right _ (g.sub e)
  · rcases List.mem_append.1 hx with e | e
    · exact in_sub h.conv (fun k hk => hc.all _ (List.mem_append_left _ (vx_mem hk))) (h.all x e)
    · exact in_sub g.conv (fun k hk => hc.all _ (List.mem_append_right _ (vx_mem hk))) (g.all x e)
/-- moved points -/
def mvP (v a : Pt) : Pt := (a.1 + v.1, a.2 + v.2)
theorem crsP_mv (v a b c : Pt) : crsP (mvP v a) (mvP v b) (mvP v c) = crsP a b c := by unfold crsP crs mvP; grind
theorem at_mv {v : Pt} {l : List Pt} {i : Nat} (h : i < l.length) : at_ (l.map (mvP v)) i = mvP v (at_ l i) := by
  rw [at_lt (by simpa using h), at_lt h, List.getElem_map]
theorem HullP.moved {l r : List Pt} (h : HullP l r) (v : Pt) : HullP (l.map (mvP v)) (r.map (mvP v)) := by
  have h3 := h.conv.1
  have ml : ∀ i, (i + 1) % r.length < r.length := fun i => Nat.mod_lt _ (by omega)
  refine ⟨⟨by rw [List.length_map]; exact h3, fun i k hi hk n1 n2 => ?_⟩, fun k hk => ?_, fun x hx i hi => ?_, fun k hk => ?_⟩
  · rw [List.length_map] at hi hk n2 ⊢
    rw [at_mv hi, at_mv (ml i), at_mv hk, crsP_mv]
    exact h.conv.2 i k hi hk n1 n2
  · rw [List.length_map] at hk
    rw [at_mv hk]
    exact List.mem_map_of_mem (h.mem k hk)
  · obtain ⟨y, hy, rfl⟩ := List.mem_map.1 hx
    rw [List.length_map] at hi ⊢
    rw [at_mv hi, at_mv (ml i), crsP_mv]
    exact h.all y hy i hi
  · rw [List.length_map] at hk
    rw [at_mv hk, at_mv (by omega)]
    have := h.low k hk
    unfold LeP mvP at *
    simp only
    omega
end Go.Proofs.Ythbgapcplgigoaa.G

namespace Go.Proofs.Ythbgapcplgigoaa.G
open Go.RowKit Go.Proofs.Ythbgapcplgigoaa.V Go.Proofs.Ythbgapcplgigoaa.W

def dtP (a d : Pt) : Int := a.1 * d.1 + a.2 * d.2
/-- the farthest, and of those the least -/
structure FarP (d : Pt) (r : List Pt) (b : Pt) : Prop where
  mem : b ∈ r
  far : ∀ x ∈ r, dtP x d < dtP b d ∨ dtP x d = dtP b d ∧ LeP b x
theorem FarP.le {d : Pt} {r : List Pt} {b : Pt} (h : FarP d r b) {x : Pt} (hx : x ∈ r) : dtP x d ≤ dtP b d := by
  rcases h.far x hx with k | k <;> omega
theorem FarP.one {d : Pt} {r : List Pt} {b c : Pt} (h : FarP d r b) (g : FarP d r c) : b = c := by
  rcases h.far c g.mem with k | ⟨k, k'⟩ <;> rcases g.far b h.mem with l | ⟨l, l'⟩
  · omega
  · omega
  · omega
  · exact le_antisymm' k' l'
def bestP (d b x : Pt) : Pt := if dtP b d < dtP x d ∨ dtP x d = dtP b d ∧ LtP x b then x else b
theorem LeP.tr {a b c : Pt} (h : LeP a b) (g : LeP b c) : LeP a c := by unfold LeP at *; omega
theorem best_far {d : Pt} : ∀ (l m : List Pt) (b : Pt), FarP d m b → FarP d (m ++ l) (l.foldl (bestP d) b)
  | [], m, b, h => by rw [List.append_nil]; exact h
  | x :: l, m, b, h => by
    have e : m ++ x :: l = (m ++ [x]) ++ l := by simp
    rw [e, List.foldl_cons]
    refine best_far l (m ++ [x]) _ ?_
    unfold bestP
    split
    · rename_i k
      refine ⟨by simp, fun y hy => ?_⟩
      rcases List.mem_append.1 hy with g | g
      · have t := h.far y g
        rcases k with k | ⟨k, k'⟩
        · exact .inl (by rcases t with t | t <;> omega)
        · rcases t with t | ⟨t, t'⟩
          · exact .inl (by omega)
          · exact .inr ⟨by omega, LeP.tr (by unfold LtP at k'; unfold LeP; omega) t'⟩
      · rw [List.mem_singleton] at g
        subst g
        exact .inr ⟨rfl, le_refl' _⟩
    · rename_i k
      refine ⟨List.mem_append_left _ h.mem, fun y hy => ?_⟩
      rcases List.mem_append.1 hy with g | g
      · exact h.far y g
      · rw [List.mem_singleton] at g
        subst g
        rcases Int.lt_trichotomy (dtP y d) (dtP b d) with c | c | c
        · exact .inl c
        · refine .inr ⟨c, ?_⟩
          rcases lt_tri y b with q | q | q
          · exact absurd (Or.inr ⟨c, q⟩) k
          · subst q; exact le_refl' _
          · unfold LtP at q; unfold LeP; omega
        · exact absurd (Or.inl c) k
theorem far_of {d a : Pt} {r : List Pt} (ha : r.head? = some a) : FarP d r (r.foldl (bestP d) a) := by
  cases r with
  | nil => cases ha
  | cons b l =>
    obtain rfl := Option.some.inj ha
    have e : bestP d b b = b := by unfold bestP; split <;> rfl
    rw [List.foldl_cons, e]
    exact best_far l [b] b ⟨by simp, fun x hx => by rw [List.mem_singleton] at hx; subst hx; exact .inr ⟨rfl, le_refl' _⟩⟩
/-- the least and the greatest scalar product -/
structure WidP (d : Pt) (r : List Pt) (lo hi : Int) : Prop where
  low : ∀ x ∈ r, lo ≤ dtP x d
  high : ∀ x ∈ r, dtP x d ≤ hi
  atl : ∃ x ∈ r, dtP x d = lo
  ath : ∃ x ∈ r, dtP x d = hi
theorem WidP.one {d : Pt} {r : List Pt} {a b a' b' : Int} (h : WidP d r a b) (g : WidP d r a' b') : a = a' ∧ b = b' := by
  obtain ⟨x, hx, ex⟩ := h.atl
  obtain ⟨y, hy, ey⟩ := h.ath
  obtain ⟨z, hz, ez⟩ := g.atl
  obtain ⟨w, hw, ew⟩ := g.ath
  have := h.low z hz
  have := h.high w hw
  have := g.low x hx
  have := g.high y hy
  omega
def widStep (d : Pt) (s : Int × Int) (x : Pt) : Int × Int := (min s.1 (dtP x d), max s.2 (dtP x d))
theorem wid_step {d : Pt} : ∀ (l m : List Pt) (s : Int × Int), WidP d m s.1 s.2 → WidP d (m ++ l) (l.foldl (widStep d) s).1 (l.foldl (widStep d) s).2
  | [], m, s, h => by rw [List.append_nil]; exact h
  | x :: l, m, s, h => by
    have e : m ++ x :: l = (m ++ [x]) ++ l := by simp
    rw [e, List.foldl_cons]
    refine wid_step l (m ++ [x]) _ ⟨fun y hy => ?_, fun y hy => ?_, ?_, ?_⟩
    · show min s.1 (dtP x d) ≤ _
      rcases List.mem_append.1 hy with g | g
      · have := h.low y g; omega
      · rw [List.mem_singleton] at g; subst g; omega
    · show _ ≤ max s.2 (dtP x d)
      rcases List.mem_append.1 hy with g | g
      · have := h.high y g; omega
      · rw [List.mem_singleton] at g; subst g; omega
    · show ∃ y ∈ m ++ [x], dtP y d = min s.1 (dtP x d)
      rcases Int.le_total s.1 (dtP x d) with c | c
      · obtain ⟨y, hy, ey⟩ := h.atl
        exact ⟨y, List.mem_append_left _ hy, by omega⟩
      · exact ⟨x, by simp, by omega⟩
    · show ∃ y ∈ m ++ [x], dtP y d = max s.2 (dtP x d)
      rcases Int.le_total s.2 (dtP x d) with c | c
      · exact ⟨x, by simp, by omega⟩
      · obtain ⟨y, hy, ey⟩ := h.ath
        exact ⟨y, List.mem_append_left _ hy, by omega⟩
theorem wid_of {d a : Pt} {r : List Pt} (ha : r.head? = some a) : WidP d r (r.foldl (widStep d) (dtP a d, dtP a d)).1 (r.foldl (widStep d) (dtP a d, dtP a d)).2 := by
  cases r with
  | nil => cases ha
  | cons b l =>
    obtain rfl := Option.some.inj ha
    have e : widStep d (dtP b d, dtP b d) b = (dtP b d, dtP b d) := by unfold widStep; simp only; rw [Int.min_self, Int.max_self]
    rw [List.foldl_cons, e]
    exact wid_step l [b] _ ⟨fun x hx => by rw [List.mem_singleton] at hx; subst hx; exact Int.le_refl _, fun x hx => by rw [List.mem_singleton] at hx; subst hx; exact Int.le_refl _, ⟨b, by simp, rfl⟩, ⟨b, by simp, rfl⟩⟩
/-- the width is the scalar product with the difference of the farthest vertices -/
theorem wid_far {d a b : Pt} {r : List Pt} {lo hi : Int} (h : WidP d r lo hi) (ha : FarP d r a) (hb : FarP (ngP d) r b) : hi - lo = d.1 * (a.1 - b.1) + d.2 * (a.2 - b.2) ∧ 0 ≤ hi - lo := by
  have ng : ∀ x, dtP x (ngP d) = -dtP x d := fun x => by unfold dtP ngP; grind
  obtain ⟨x, hx, ex⟩ := h.atl
  obtain ⟨y, hy, ey⟩ := h.ath
  have t1 := ha.le hy
  have t2 := h.high a ha.mem
  have t3 := hb.le hx
  rw [ng, ng] at t3
  have t4 := h.low b hb.mem
  have t5 := h.low y hy
  have e : d.1 * (a.1 - b.1) + d.2 * (a.2 - b.2) = dtP a d - dtP b d := by unfold dtP; grind
  rw [e]
  omega
/-- moved points have the same width -/
theorem wid_moved {d v : Pt} {r : List Pt} {a b a' b' : Int} (h : WidP d r a b) (g : WidP d (r.map (mvP v)) a' b') : b - a = b' - a' := by
  have mv : ∀ x, dtP (mvP v x) d = dtP x d + dtP v d := fun x => by unfold dtP mvP; grind
  have : WidP d (r.map (mvP v)) (a + dtP v d) (b + dtP v d) := by
    refine ⟨fun y hy => ?_, fun y hy => ?_, ?_, ?_⟩
    · obtain ⟨x, hx, rfl⟩ := List.mem_map.1 hy
      have := h.low x hx
      rw [mv]; omega
    · obtain ⟨x, hx, rfl⟩ := List.mem_map.1 hy
      have := h.high x hx
      rw [mv]; omega
    · obtain ⟨x, hx, e⟩ := h.atl
      exact ⟨_, List.mem_map_of_mem hx, by rw [mv, e]⟩
    · obtain ⟨x, hx, e⟩ := h.ath
      exact ⟨_, List.mem_map_of_mem hx, by rw [mv, e]⟩
  have := this.one g
  omega
/-- the greatest squared distance -/
structure DiaP (r : List Pt) (n : Int) : Prop where
  most : ∀ x ∈ r, ∀ y ∈ r, sqP x y ≤ n
  pair : ∃ i k, k < i ∧ i < r.length ∧ sqP (at_ r i) (at_ r k) = n
theorem DiaP.one {r : List Pt} {n m : Int} (h : DiaP r n) (g : DiaP r m) : n = m := by
  obtain ⟨i, k, hk, hi, e⟩ := h.pair
  obtain ⟨j, l, hl, hj, f⟩ := g.pair
  have := h.most _ (vx_mem hj) _ (vx_mem (show l < r.length by omega))
  have := g.most _ (vx_mem hi) _ (vx_mem (show k < r.length by omega))
  omega
/-- the squared width is at most the squared diameter times the square of the direction -/
theorem wid_dia {d : Pt} {r : List Pt} {lo hi n : Int} (h : WidP d r lo hi) (g : DiaP r n) : (hi - lo) * (hi - lo) ≤ n * (d.1 * d.1 + d.2 * d.2) := by
  obtain ⟨x, hx, ex⟩ := h.atl
  obtain ⟨y, hy, ey⟩ := h.ath
  have c := cauchy d.1 d.2 (y.1 - x.1) (y.2 - x.2)
  have e : d.1 * (y.1 - x.1) + d.2 * (y.2 - x.2) = hi - lo := by rw [← ex, ← ey]; unfold dtP; grind
  rw [e] at c
  have m := g.most x hx y hy
  have s : 0 ≤ d.1 * d.1 + d.2 * d.2 := by
    have := sq_nonneg d.1
    have := sq_nonneg d.2
    omega
  have t := Int.mul_le_mul_of_nonneg_right m s
  unfold sqP at t
  omega
end Go.Proofs.Ythbgapcplgigoaa.G

namespace Go.Proofs.Ythbgapcplgigoaa.G
open Go.RowKit Go.Proofs.Ythbgapcplgigoaa.V Go.Proofs.Ythbgapcplgigoaa.W

theorem line_two {a x y w : Pt} (hne : a ≠ x) (h : crsP a x y = 0) (g : crsP a x w = 0) : crsP x y w = 0 := by
  rcases lt_tri a x with k | k | k
  · exact line_cross k h g
  · exact absurd k hne
  · have e : ∀ q, crsP x a q = -crsP a x q := fun q => by unfold crsP crs; grind
    have := line_cross k (by rw [e, h]; rfl) (by rw [e, g]; rfl)
    have : crsP x y w = crsP a x y + crsP a y w - crsP a x w := by unfold crsP crs; grind
    omega
/-- all on a line through the first -/
theorem flat_iff {a : Pt} {l : List Pt} (ha : l.head? = some a) : FlatP l ↔ ∀ x ∈ l, ∀ y ∈ l, x ≠ a → crsP a x y = 0 := by
  have hm : a ∈ l := List.mem_of_mem_head? ha
  constructor
  · intro h x hx y hy _
    exact h a x y hm hx hy
  · intro h x y w hx hy hw
    by_cases e : x = a
    · subst e
      by_cases e' : y = x
      · subst e'
        unfold crsP crs; grind
      · exact h y hy w hw e'
    · exact line_two (fun k => e k.symm) (h x hx y hy e) (h x hx w hw e)
theorem flat_nil : FlatP [] := fun _ _ _ h => by cases h
/-- a ring begun at its vertex k -/
def rotC (k : Nat) (r : List Pt) : List Pt := r.drop k ++ r.take k
theorem rotC_len {k : Nat} {r : List Pt} (hk : k ≤ r.length) : (rotC k r).length = r.length := by unfold rotC; simp; omega
theorem rotC_at {k i : Nat} {r : List Pt} (hk : k < r.length) (hi : i < r.length) : at_ (rotC k r) i = at_ r ((k + i) % r.length) := by
  have hm : (k + i) % r.length < r.length := Nat.mod_lt _ (by omega)
  rw [at_lt (by rw [rotC_len (by omega)]; exact hi), at_lt hm]
  unfold rotC
  by_cases h : i < r.length - k
  · rw [List.getElem_append_left (by simp; omega), List.getElem_drop]
    congr 1
    rw [Nat.mod_eq_of_lt (by omega)]
  · rw [List.getElem_append_right (by simp; omega), List.getElem_take]
    congr 1
    rw [List.length_drop, Nat.mod_eq_sub_mod (by omega), Nat.mod_eq_of_lt (by omega)]
    omega
theorem rotC_mem {k : Nat} {r : List Pt} {x : Pt} : x ∈ rotC k r ↔ x ∈ r := by
  unfold rotC
  rw [List.mem_append]
  constructor
  · rintro (h | h)
    · exact List.mem_of_mem_drop h
    · exact List.mem_of_mem_take h
  · intro h
    rw [← List.take_append_drop k r] at h
    rcases List.mem_append.1 h with g | g
    · exact .inr g
    · exact .inl g
theorem conv_rot {k : Nat} {r : List Pt} (h : ConvP r) (hk : k < r.length) : ConvP (rotC k r) := by
  have hl := rotC_len (r := r) (Nat.le_of_lt hk)
  have inj : ∀ i j, i < r.length → j < r.length → (k + i) % r.length = (k + j) % r.length → i = j := fun i j hi hj e => by
    have e1 : (k + i) % r.length = if k + i < r.length then k + i else k + i - r.length := by
      split
      · exact Nat.mod_eq_of_lt (by omega)
      · rw [Nat.mod_eq_sub_mod (by omega), Nat.mod_eq_of_lt (by omega)]
    have e2 : (k + j) % r.length = if k + j < r.length then k + j else k + j - r.length := by
      split
      · exact Nat.mod_eq_of_lt (by omega)
      · rw [Nat.mod_eq_sub_mod (by omega), Nat.mod_eq_of_lt (by omega)]
    rw [e1, e2] at e
    split at e <;> split at e <;> omega
  refine ⟨by rw [hl]; exact h.1, fun i j hi hj n1 n2 => ?_⟩
  rw [hl] at hi hj n2 ⊢
  have hp : 0 < r.length := by omega
  have e : (k + (i + 1) % r.length) % r.length = ((k + i) % r.length + 1) % r.length := by
    rw [Nat.add_mod_mod, Nat.mod_add_mod, Nat.add_assoc]
  rw [rotC_at hk hi, rotC_at hk (Nat.mod_lt _ hp), rotC_at hk hj, e]
  refine h.2 _ _ (Nat.mod_lt _ hp) (Nat.mod_lt _ hp) (fun g => n1 (inj _ _ hj hi g)) fun g => ?_
  rw [← e] at g
  exact n2 (inj _ _ hj (Nat.mod_lt _ hp) g)
theorem conv_rot_iff {k : Nat} {r : List Pt} (hk : k < r.length) : ConvP (rotC k r) ↔ ConvP r := by
  constructor
  · intro h
    by_cases h0 : k = 0
    · subst h0
      unfold rotC at h
      simpa using h
    · have hl := rotC_len (r := r) (Nat.le_of_lt hk)
      have := conv_rot h (k := r.length - k) (by rw [hl]; omega)
      have e : rotC (r.length - k) (rotC k r) = r := by
        unfold rotC
        have : r.length - k = (r.drop k).length := by simp
        rw [this, List.drop_left, List.take_left, List.take_append_drop]
      rwa [e] at this
  · exact fun h => conv_rot h hk
/-- the hull of a convex ring's vertices is the ring, begun at its least vertex -/
theorem conv_hull {k : Nat} {r : List Pt} (h : ConvP r) (hk : k < r.length) (hl : ∀ i, i < r.length → LeP (at_ r k) (at_ r i)) : HullP r (rotC k r) := by
  have hc := conv_rot h hk
  have hn := rotC_len (r := r) (Nat.le_of_lt hk)
  refine ⟨hc, fun i hi => rotC_mem.1 (vx_mem hi), fun x hx i hi => ?_, fun i hi => ?_⟩
  · obtain ⟨j, hj, rfl⟩ := vx_at (rotC_mem (k := k).2 hx)
    by_cases e1 : j = i
    · subst e1
      have : ∀ a b : Pt, crsP a b a = 0 := fun a b => by unfold crsP crs; grind
      rw [this]; exact Int.le_refl _
    · by_cases e2 : j = (i + 1) % (rotC k r).length
      · rw [← e2]
        have : ∀ a b : Pt, crsP a b b = 0 := fun a b => by unfold crsP crs; grind
        rw [this]; exact Int.le_refl _
      · exact Int.le_of_lt (hc.2 i j hi hj e1 e2)
  · rw [hn] at hi
    rw [rotC_at hk (by omega), rotC_at hk hi, Nat.add_zero, Nat.mod_eq_of_lt hk]
    exact hl _ (Nat.mod_lt _ (by omega))
/-- a ring is convex if it is the hull of its vertices, begun at its least one -/
theorem hull_conv {k : Nat} {r l : List Pt} (h : HullP l (rotC k r)) (hk : k < r.length) : ConvP r := (conv_rot_iff hk).1 h.conv
end Go.Proofs.Ythbgapcplgigoaa.G
