/-
  hull, plain: the hull of ascending points by two chains. No condition but those that stand.
  hull, plain: points that don't lie on a line have a hull; the hull of hulls; moved points. No condition but those that stand.
  hull, plain: the farthest vertex, the width, the diameter. No condition but those that stand.
-/
import Derived.Test.YthifljljaejfmaaJ15
namespace Go.Proofs.Ythifljljaejfmaa.G
open Go.RowKit Go.Proofs.Ythifljljaejfmaa.V Go.Proofs.Ythifljljaejfmaa.W

theorem at_lt {l : List Pt} {i : Nat} (h : i < l.length) : at_ l i = l[i] := by
  unfold at_
  rw [List.getD_eq_getElem?_getD, List.getElem?_eq_getElem h]; rfl
theorem at_rev {l : List Pt} {i : Nat} (h : i < l.length) : at_ l.reverse i = at_ l (l.length - 1 - i) := by
  rw [at_lt (by simpa using h), at_lt (by omega), List.getElem_reverse]
theorem good_at {P : Pt → Prop} : ∀ (S : List Pt) (j : Nat), Good P S → j + 1 < S.length → LtP (at_ S (j + 1)) (at_ S j) ∧ (∀ q, P q → 0 ≤ crsP (at_ S (j + 1)) (at_ S j) q) ∧ (j + 2 < S.length → 0 < crsP (at_ S (j + 2)) (at_ S (j + 1)) (at_ S j))
  | [], _, _, h => absurd h (Nat.not_lt_zero _)
  | [_], _, _, h => absurd h (by simp)
  | b :: a :: r, 0, h, _ => ⟨h.1, h.2.1, fun hl => by
    match r, h, hl with
    | z :: r, h, _ => exact h.2.2.1 z rfl
    | [], _, hl => exact absurd hl (by simp)⟩
  | b :: a :: r, j + 1, h, hl => good_at (a :: r) j h.2.2.2 (by simp only [List.length_cons] at hl ⊢; omega)|>.imp id fun g => ⟨g.1, fun k => g.2 (by simp only [List.length_cons] at k ⊢; omega)⟩
theorem good_low {P : Pt → Prop} {S : List Pt} (h : Good P S) (hm : ∀ x ∈ S, P x) (hn : S ≠ []) : Low P (fun i => at_ S.reverse i) (S.length - 1) := by
  have hl : 0 < S.length := List.length_pos_iff.2 hn
  refine ⟨fun i hi => ?_, fun i hi => ?_, fun i hi => ?_, fun i hi => ?_⟩
  · have g := (good_at S (S.length - 1 - (i + 1)) h (by omega)).1
    show LtP (at_ S.reverse i) (at_ S.reverse (i + 1))
    rw [at_rev (by omega), at_rev (by omega)]
    rwa [show S.length - 1 - (i + 1) + 1 = S.length - 1 - i by omega] at g
  · have g := (good_at S (S.length - 1 - (i + 1)) h (by omega)).2.1
    show ∀ q, P q → 0 ≤ crsP (at_ S.reverse i) (at_ S.reverse (i + 1)) q
    rw [at_rev (by omega), at_rev (by omega)]
    rwa [show S.length - 1 - (i + 1) + 1 = S.length - 1 - i by omega] at g
  · have g := (good_at S (S.length - 1 - (i + 2)) h (by omega)).2.2 (by omega)
    show 0 < crsP (at_ S.reverse i) (at_ S.reverse (i + 1)) (at_ S.reverse (i + 2))
    rw [at_rev (by omega), at_rev (by omega), at_rev (by omega)]
    rwa [show S.length - 1 - (i + 2) + 2 = S.length - 1 - i by omega, show S.length - 1 - (i + 2) + 1 = S.length - 1 - (i + 1) by omega] at g
  · show P (at_ S.reverse i)
    rw [at_rev (by omega), at_lt (by omega)]
    exact hm _ (List.getElem_mem _)
theorem at_last {l : List Pt} {z : Pt} (h : l.getLast? = some z) : at_ l (l.length - 1) = z := by
  have hn : l ≠ [] := by intro e; rw [e] at h; cases h
  have hl : 0 < l.length := List.length_pos_iff.2 hn
  rw [at_lt (by omega)]
  rw [List.getLast?_eq_some_getLast hn, List.getLast_eq_getElem] at h
  exact Option.some.inj h
theorem at_head {l : List Pt} {z : Pt} (h : l.head? = some z) : at_ l 0 = z := by
  cases l with
  | nil => cases h
  | cons a l => exact Option.some.inj h
theorem rev_head {l : List Pt} : l.reverse.head? = l.getLast? := by simp
theorem rev_last {l : List Pt} : l.reverse.getLast? = l.head? := by simp
/-- the lower chain, the upper chain; each with its first point first -/
def lowC (l : List Pt) : List Pt := (chainC l).reverse
def uppC (l : List Pt) : List Pt := (lowC (l.reverse.map ngP)).map ngP
theorem asc_ng {l : List Pt} (h : l.Pairwise LtP) : (l.reverse.map ngP).Pairwise LtP := by
  rw [List.pairwise_map, List.pairwise_reverse]
  exact h.imp fun {a b} hab => lt_ng.2 hab
theorem lowC_all {l : List Pt} (hs : l.Pairwise LtP) (hn : l ≠ []) : Low (fun q => q ∈ l) (fun i => at_ (lowC l) i) ((lowC l).length - 1) ∧ (lowC l).head? = l.head? ∧ (lowC l).getLast? = l.getLast? ∧ lowC l ≠ [] ∧ ∀ x ∈ lowC l, x ∈ l := by
  cases l with
  | nil => exact absurd rfl hn
  | cons a l =>
    obtain ⟨g, m, e1, e2, e3⟩ := chain_all hs
    refine ⟨?_, ?_, ?_, ?_, ?_⟩
    · have := good_low g m e3
      unfold lowC
      rwa [List.length_reverse]
    · unfold lowC
      rw [rev_head, e1]; rfl
    · unfold lowC
      rw [rev_last, e2]
    · unfold lowC
      simpa using e3
    · intro x hx
      exact m x (by unfold lowC at hx; simpa using hx)
theorem at_map {l : List Pt} {i : Nat} (h : i < l.length) : at_ (l.map ngP) i = ngP (at_ l i) := by
  rw [at_lt (by simpa using h), at_lt h, List.getElem_map]
theorem at_app_l {a b : List Pt} {i : Nat} (h : i < a.length) : at_ (a ++ b) i = at_ a i := by
  rw [at_lt (by rw [List.length_append]; omega), at_lt h, List.getElem_append_left h]
theorem at_app_r {a b : List Pt} {i : Nat} (h : i < b.length) : at_ (a ++ b) (a.length + i) = at_ b i := by
  rw [at_lt (by rw [List.length_append]; omega), at_lt h, List.getElem_append_right (by omega)]
  congr 1
  omega
theorem at_drop {a : List Pt} {i : Nat} (h : i < a.length - 1) : at_ a.dropLast i = at_ a i := by
  rw [at_lt (by rw [List.length_dropLast]; omega), at_lt (by omega), List.getElem_dropLast]
def ringC (l : List Pt) : List Pt := (lowC l).dropLast ++ (uppC l).dropLast
/-- the two chains of ascending points that don't lie on a line are their hull -/
theorem ring_hull {a z : Pt} {l : List Pt} (hs : l.Pairwise LtP) (ha : l.head? = some a) (hz : l.getLast? = some z) (hn : ∃ q ∈ l, crsP a z q ≠ 0) : HullP l (ringC l) := by
  have hne : l ≠ [] := by intro e; rw [e] at ha; cases ha
  have hne' : l.reverse.map ngP ≠ [] := by simpa using hne
  obtain ⟨c, c1, c2, c3, c4⟩ := lowC_all hs hne
  obtain ⟨d, d1, d2, d3, d4⟩ := lowC_all (asc_ng hs) hne'
  rw [ha] at c1
  rw [hz] at c2
  have d1' : (lowC (l.reverse.map ngP)).head? = some (ngP z) := by rw [d1, List.head?_map, rev_head, hz]; rfl
  have d2' : (lowC (l.reverse.map ngP)).getLast? = some (ngP a) := by rw [d2, List.getLast?_map, rev_last, ha]; rfl
  have cl : 0 < (lowC l).length := List.length_pos_iff.2 c3
  have dl : 0 < (lowC (l.reverse.map ngP)).length := List.length_pos_iff.2 d3
  have ul : (uppC l).length = (lowC (l.reverse.map ngP)).length := by unfold uppC; rw [List.length_map]
  have haz : a ≠ z := by
    rintro rfl
    obtain ⟨q, _, h⟩ := hn
    refine h ?_
    unfold crsP crs; grind
  have s1 : 1 ≤ (lowC l).length - 1 := by
    rcases Nat.lt_or_ge ((lowC l).length - 1) 1 with k | k
    · exfalso
      have e1 := at_head c1
      have e2 := at_last c2
      rw [show (lowC l).length - 1 = 0 by omega, e1] at e2
      exact haz e2
    · exact k
  have t1 : 1 ≤ (lowC (l.reverse.map ngP)).length - 1 := by
    rcases Nat.lt_or_ge ((lowC (l.reverse.map ngP)).length - 1) 1 with k | k
    · exfalso
      have e1 := at_head d1'
      have e2 := at_last d2'
      rw [show (lowC (l.reverse.map ngP)).length - 1 = 0 by omega, e1] at e2
      have := congrArg ngP e2
      rw [ngP_ng, ngP_ng] at this
      exact haz this.symm
    · exact k
  have ua : ∀ i, i < (lowC (l.reverse.map ngP)).length → at_ (uppC l) i = ngP (at_ (lowC (l.reverse.map ngP)) i) := fun i hi => by
    unfold uppC
    exact at_map hi
  have hd : Low (fun q => q ∈ l.map ngP) (fun i => ngP (at_ (uppC l) i)) ((lowC (l.reverse.map ngP)).length - 1) := by
    have e : (fun q => q ∈ l.reverse.map ngP) = fun q => q ∈ l.map ngP := by
      funext q
      simp
    rw [e] at d
    have ew : ∀ i, i ≤ (lowC (l.reverse.map ngP)).length - 1 → ngP (at_ (uppC l) i) = at_ (lowC (l.reverse.map ngP)) i := fun i hi => by
      rw [ua i (by omega), ngP_ng]
    refine ⟨fun i hi => ?_, fun i hi q hq => ?_, fun i hi => ?_, fun i hi => ?_⟩
    · show LtP (ngP (at_ (uppC l) i)) (ngP (at_ (uppC l) (i + 1)))
      rw [ew i (by omega), ew (i + 1) (by omega)]
      exact d.up i hi
    · show 0 ≤ crsP (ngP (at_ (uppC l) i)) (ngP (at_ (uppC l) (i + 1))) q
      rw [ew i (by omega), ew (i + 1) (by omega)]
      exact d.left i hi q hq
    · show 0 < crsP (ngP (at_ (uppC l) i)) (ngP (at_ (uppC l) (i + 1))) (ngP (at_ (uppC l) (i + 2)))
      rw [ew i (by omega), ew (i + 1) (by omega), ew (i + 2) (by omega)]
      exact d.turn i hi
    · show ngP (at_ (uppC l) i) ∈ l.map ngP
      rw [ew i hi]
      exact d.mem i hi
  have f0 : at_ (lowC l) 0 = a := at_head c1
  have fs : at_ (lowC l) ((lowC l).length - 1) = z := at_last c2
  have g0 : at_ (uppC l) 0 = z := by rw [ua 0 dl, at_head d1', ngP_ng]
  have gt : at_ (uppC l) ((lowC (l.reverse.map ngP)).length - 1) = a := by rw [ua _ (by omega), at_last d2', ngP_ng]
  refine join_hull (c := fun i => at_ (lowC l) i) (d := fun i => at_ (uppC l) i) s1 t1 c hd (f0.trans gt.symm) (fs.trans g0.symm) ?_ ?_ ?_ ?_ ?_ ?_
  · intro q hq
    show q = at_ (lowC l) 0 ∨ LtP (at_ (lowC l) 0) q
    rw [f0]
    match l, hs, ha, hq with
    | y :: m, hs, ha, hq =>
      obtain rfl : y = a := by simpa using ha
      rcases List.mem_cons.1 hq with e | e
      · exact .inl e
      · exact .inr ((List.pairwise_cons.1 hs).1 q e)
  · intro q hq
    show q = at_ (lowC l) ((lowC l).length - 1) ∨ LtP q (at_ (lowC l) ((lowC l).length - 1))
    rw [fs]
    have e := List.dropLast_concat_getLast hne
    rw [List.getLast?_eq_some_getLast hne] at hz
    rw [Option.some.inj hz] at e
    rw [← e] at hq hs
    rcases List.mem_append.1 hq with h | h
    · exact .inr ((List.pairwise_append.1 hs).2.2 q h z List.mem_cons_self)
    · exact .inl (by simpa using h)
  · obtain ⟨q, hq, h⟩ := hn
    refine ⟨q, hq, ?_⟩
    show crsP (at_ (lowC l) 0) (at_ (lowC l) ((lowC l).length - 1)) q ≠ 0
    rwa [f0, fs]
  · unfold ringC
    rw [List.length_append, List.length_dropLast, List.length_dropLast, ul]
  · intro i hi
    unfold ringC
    rw [at_app_l (by rw [List.length_dropLast]; exact hi), at_drop hi]
  · intro i hi
    have := at_app_r (a := (lowC l).dropLast) (b := (uppC l).dropLast) (i := i) (by rw [List.length_dropLast, ul]; exact hi)
    rw [List.length_dropLast] at this
    unfold ringC
    rw [this, at_drop (by rw [ul]; exact hi)]
/-- and if all lie on a line, there are two points at most -/
theorem ring_line {a z : Pt} {l : List Pt} (hs : l.Pairwise LtP) (ha : l.head? = some a) (hz : l.getLast? = some z) (hn : ∀ q ∈ l, crsP a z q = 0) : (ringC l).length ≤ 2 := by
  have hne : l ≠ [] := by intro e; rw [e] at ha; cases ha
  have hne' : l.reverse.map ngP ≠ [] := by simpa using hne
  obtain ⟨c, c1, c2, c3, c4⟩ := lowC_all hs hne
  obtain ⟨d, d1, d2, d3, d4⟩ := lowC_all (asc_ng hs) hne'
  rw [ha] at c1
  rw [hz] at c2
  have d1' : (lowC (l.reverse.map ngP)).head? = some (ngP z) := by rw [d1, List.head?_map, rev_head, hz]; rfl
  have d2' : (lowC (l.reverse.map ngP)).getLast? = some (ngP a) := by rw [d2, List.getLast?_map, rev_last, ha]; rfl
  have flat : LtP a z → ∀ x y w, x ∈ l → y ∈ l → w ∈ l → crsP x y w = 0 := fun hlt x y w hx hy hw => by
    have a1 := line_cross hlt (hn x hx) (hn y hy)
    have a2 := line_cross hlt (hn y hy) (hn w hw)
    have a3 := line_cross hlt (hn x hx) (hn w hw)
    have : crsP x y w = crsP z x y + crsP z y w - crsP z x w := by unfold crsP crs; grind
    omega
  have k1 : (lowC l).length - 1 < 2 := by
    rcases Nat.lt_or_ge ((lowC l).length - 1) 2 with k | k
    · exact k
    · exfalso
      have hlt : LtP (at_ (lowC l) 0) (at_ (lowC l) ((lowC l).length - 1)) := c.lt _ (by omega) (Nat.le_refl _)
      rw [at_head c1, at_last c2] at hlt
      have t := c.turn 0 (by omega)
      rw [flat hlt _ _ _ (c.mem 0 (by omega)) (c.mem 1 (by omega)) (c.mem 2 (by omega))] at t
      omega
  have k2 : (lowC (l.reverse.map ngP)).length - 1 < 2 := by
    rcases Nat.lt_or_ge ((lowC (l.reverse.map ngP)).length - 1) 2 with k | k
    · exact k
    · exfalso
      have hlt : LtP (at_ (lowC (l.reverse.map ngP)) 0) (at_ (lowC (l.reverse.map ngP)) ((lowC (l.reverse.map ngP)).length - 1)) := d.lt _ (by omega) (Nat.le_refl _)
      rw [at_head d1', at_last d2'] at hlt
      have mem : ∀ i, i ≤ (lowC (l.reverse.map ngP)).length - 1 → ∃ x ∈ l, at_ (lowC (l.reverse.map ngP)) i = ngP x := fun i hi => by
        have := d.mem i hi
        obtain ⟨x, hx, e⟩ := List.mem_map.1 this
        exact ⟨x, by simpa using hx, e.symm⟩
      have t : 0 < crsP (at_ (lowC (l.reverse.map ngP)) 0) (at_ (lowC (l.reverse.map ngP)) 1) (at_ (lowC (l.reverse.map ngP)) 2) := d.turn 0 (by omega)
      obtain ⟨x, hx, ex⟩ := mem 0 (by omega)
      obtain ⟨y, hy, ey⟩ := mem 1 (by omega)
      obtain ⟨w, hw, ew⟩ := mem 2 (by omega)
      rw [ex, ey, ew, crsP_ng, flat (lt_ng.1 hlt) _ _ _ hx hy hw] at t
      omega
  unfold ringC uppC
  rw [List.length_append, List.length_dropLast, List.length_dropLast, List.length_map]
  omega
end Go.Proofs.Ythifljljaejfmaa.G

namespace Go.Proofs.Ythifljljaejfmaa.G
open Go.RowKit Go.Proofs.Ythifljljaejfmaa.V Go.Proofs.Ythifljljaejfmaa.W

instance (a b : Pt) : Decidable (LtP a b) := by unfold LtP; exact inferInstance
/-- ascending, each point once -/
def insP (p : Pt) : List Pt → List Pt
  | [] => [p]
  | a :: l => if LtP p a then p :: a :: l else if p = a then a :: l else a :: insP p l
def ascP (l : List Pt) : List Pt := l.foldr insP []
theorem insP_mem {p x : Pt} : ∀ {l : List Pt}, x ∈ insP p l ↔ x = p ∨ x ∈ l
  | [] => by simp [insP]
  | a :: l => by
    unfold insP
    split
    · simp
    · split
      · rename_i h; subst h; simp
      · rw [List.mem_cons, insP_mem (l := l), List.mem_cons]
        constructor
        · rintro (h | h | h)
          · exact .inr (.inl h)
          · exact .inl h
          · exact .inr (.inr h)
        · rintro (h | h | h)
          · exact .inr (.inl h)
          · exact .inl h
          · exact .inr (.inr h)
theorem insP_asc {p : Pt} : ∀ {l : List Pt}, l.Pairwise LtP → (insP p l).Pairwise LtP
  | [], _ => by simp [insP]
  | a :: l, h => by
    obtain ⟨h1, h2⟩ := List.pairwise_cons.1 h
    unfold insP
    split
    · rename_i k
      refine List.pairwise_cons.2 ⟨fun q hq => ?_, h⟩
      rcases List.mem_cons.1 hq with rfl | e
      · exact k
      · exact k.trans (h1 q e)
    · rename_i k
      split
      · exact h
      · rename_i k'
        refine List.pairwise_cons.2 ⟨fun q hq => ?_, insP_asc h2⟩
        rcases insP_mem.1 hq with rfl | e
        · exact ((lt_tri q a).resolve_left k).resolve_left k'
        · exact h1 q e
theorem ascP_mem {x : Pt} : ∀ {l : List Pt}, x ∈ ascP l ↔ x ∈ l
  | [] => Iff.rfl
  | a :: l => by
    show x ∈ insP a (ascP l) ↔ _
    rw [insP_mem, ascP_mem (l := l), List.mem_cons]
theorem ascP_asc : ∀ (l : List Pt), (ascP l).Pairwise LtP
  | [] => List.Pairwise.nil
  | _ :: l => insP_asc (ascP_asc l)
/-- only the points count -/
theorem HullP.iff {l m r : List Pt} (h : ∀ x, x ∈ l ↔ x ∈ m) (g : HullP l r) : HullP m r :=
  ⟨g.conv, fun k hk => (h _).1 (g.mem k hk), fun x hx => g.all x ((h x).2 hx), g.low⟩
/-- all points on a line -/
def FlatP (l : List Pt) : Prop := ∀ x y w, x ∈ l → y ∈ l → w ∈ l → crsP x y w = 0
theorem HullP.bend {l r : List Pt} (h : HullP l r) : ¬ FlatP l := fun f => by
  have h3 := h.conv.1
  have g := h.conv.2 0 2 (by omega) (by omega) (by omega) (by rw [Nat.mod_eq_of_lt (by omega)]; omega)
  rw [f _ _ _ (h.mem _ (by omega)) (h.mem _ (Nat.mod_lt _ (by omega))) (h.mem _ (by omega))] at g
  omega
/-- the line of the least and the greatest point -/
theorem ends_flat {a z : Pt} {l : List Pt} (hs : l.Pairwise LtP) (ha : l.head? = some a) (hz : l.getLast? = some z) (hn : ∀ q ∈ l, crsP a z q = 0) : FlatP l := by
  have hne : l ≠ [] := by intro e; rw [e] at ha; cases ha
  match l, hs, ha, hz, hn with
  | y :: [], _, _, _, _ => 
    intro p q w hp hq hw
    rw [List.mem_singleton] at hp hq hw
    subst hp hq hw
    unfold crsP crs; grind
  | y :: y' :: m, hs, ha, hz, hn =>
    obtain rfl : y = a := by simpa using ha
    have hlt : LtP y z := by
      rw [List.getLast?_cons_cons] at hz
      have : z ∈ y' :: m := List.mem_of_getLast? hz
      exact (List.pairwise_cons.1 hs).1 z this
    intro x p w hx hp hw
    have a1 := line_cross hlt (hn x hx) (hn p hp)
    have a2 := line_cross hlt (hn p hp) (hn w hw)
    have a3 := line_cross hlt (hn x hx) (hn w hw)
    have : crsP x p w = crsP z x p + crsP z p w - crsP z x w := by unfold crsP crs; grind
    omega
/-- what does not lie on a line has a hull -/
theorem hull_exists {l : List Pt} (h : ¬ FlatP l) : HullP l (ringC (ascP l)) := by
  have hm : ∀ x, x ∈ ascP l ↔ x ∈ l := fun x => ascP_mem
  have hne : ascP l ≠ [] := by
    intro e
    refine h fun x y w hx _ _ => ?_
    have := (hm x).2 hx
    rw [e] at this
    cases this
  refine HullP.iff hm ?_
  have ha : (ascP l).head? = some ((ascP l).head hne) := (List.head?_eq_some_head hne)
  have hz : (ascP l).getLast? = some ((ascP l).getLast hne) := List.getLast?_eq_some_getLast hne
  refine ring_hull (ascP_asc l) ha hz ?_
  refine Classical.byContradiction fun k => h ?_
  have f := ends_flat (ascP_asc l) ha hz fun q hq => Classical.byContradiction fun e => k ⟨q, hq, e⟩
  exact fun x y w hx hy hw => f x y w ((hm x).2 hx) ((hm y).2 hy) ((hm w).2 hw)
theorem vx_mem {l : List Pt} {k : Nat} (h : k < l.length) : at_ l k ∈ l := by
  rw [at_lt h]
  exact List.getElem_mem _
theorem vx_at {l : List Pt} {x : Pt} (h : x ∈ l) : ∃ k, k < l.length ∧ at_ l k = x := by
  obtain ⟨k, hk, e⟩ := List.mem_iff_getElem.1 h
  exact ⟨k, hk, by rw [at_lt hk, e]⟩
theorem HullP.sub {l r : List Pt} (h : HullP l r) {x : Pt} (hx : x ∈ r) : x ∈ l := by
  obtain ⟨k, hk, rfl⟩ := vx_at hx
  exact h.mem k hk
/-- a convex ring's own hull -/
theorem HullP.self {l r : List Pt} (h : HullP l r) : HullP r r := ⟨h.conv, fun _ hk => vx_mem hk, fun x hx => h.all x (h.sub hx), h.low⟩
/-- more points within the hull -/
theorem HullP.more {l m r c : List Pt} (h : HullP l r) (hc : HullP m c) (hs : ∀ x ∈ m, x ∈ l) (hr : ∀ x ∈ r, x ∈ m) : HullP l c :=
  ⟨hc.conv, fun k hk => hs _ (hc.mem k hk), fun _ hx => in_sub h.conv (fun _ hk => hc.all _ (hr _ (vx_mem hk))) (h.all _ hx), hc.low⟩
/-- the hull of two lists is that of both hulls -/
theorem HullP.both {l m r s : List Pt} (h : HullP l r) (g : HullP m s) : HullP (l ++ m) (ringC (ascP (r ++ s))) ∧ HullP (r ++ s) (ringC (ascP (r ++ s))) := by
  have nf : ¬ FlatP (r ++ s) := fun f => h.self.bend fun x y w hx hy hw => f x y w (List.mem_append_left _ hx) (List.mem_append_left _ hy) (List.mem_append_left _ hw)
  have hc := hull_exists nf
  refine ⟨⟨hc.conv, fun k hk => ?_, fun x hx => ?_, hc.low⟩, hc⟩
  · rcases List.mem_append.1 (hc.mem k hk) with e | e
    · exact List.mem_append_left _ (h.sub e)
    · exact List.mem_append_right _ (g.sub e)
  · rcases List.mem_append.1 hx with e | e
    · exact in_sub h.conv (fun k hk => hc.all _ (List.mem_append_left _ (vx_mem hk))) (h.all x e)
    · exact in_sub g.conv (fun k hk => hc.all _ (List.mem_append_right _ (vx_mem hk))) (g.all x e)
/-- moved points -/
def mvP (v a : Pt) : Pt := (a.1 + v.1, a.2 + v.2)
theorem crsP_mv (v a b c : Pt) : crsP (mvP v a) (mvP v b) (mvP v c) = crsP a b c := by unfold crsP crs mvP; grind
theorem at_mv {v : Pt} {l : List Pt} {i : Nat} (h : i < l.length) : at_ (l.map (mvP v)) i = mvP v (at_ l i) := by
  rw [at_lt (by simpa using h), at_lt h, List.getElem_map]
theorem HullP.moved {l r : List Pt} (h : HullP l r) (v : Pt) : HullP (l.map (mvP v)) (r.map (mvP v)) := by
  have h3 := h.conv.1
  have ml : ∀ i, (i + 1) % r.length < r.length := fun i => Nat.mod_lt _ (by omega)
  refine ⟨⟨by rw [List.length_map]; exact h3, fun i k hi hk n1 n2 => ?_⟩, fun k hk => ?_, fun x hx i hi => ?_, fun k hk => ?_⟩
  · rw [List.length_map] at hi hk n2 ⊢
    rw [at_mv hi, at_mv (ml i), at_mv hk, crsP_mv]
    exact h.conv.2 i k hi hk n1 n2
  · rw [List.length_map] at hk
    rw [at_mv hk]
    exact List.mem_map_of_mem (h.mem k hk)
  · obtain ⟨y, hy, rfl⟩ := List.mem_map.1 hx
    rw [List.length_map] at hi ⊢
    rw [at_mv hi, at_mv (ml i), crsP_mv]
    exact h.all y hy i hi
  · rw [List.length_map] at hk
    rw [at_mv hk, at_mv (by omega)]
    have := h.low k hk
    unfold LeP mvP at *
    simp only
    omega
end Go.Proofs.Ythifljljaejfmaa.G

namespace Go.Proofs.Ythifljljaejfmaa.G
open Go.RowKit Go.Proofs.Ythifljljaejfmaa.V Go.Proofs.Ythifljljaejfmaa.W

def dtP (a d : Pt) : Int := a.1 * d.1 + a.2 * d.2
/-- the farthest, and of those the least -/
structure FarP (d : Pt) (r : List Pt) (b : Pt) : Prop where
  mem : b ∈ r
  far : ∀ x ∈ r, dtP x d < dtP b d ∨ dtP x d = dtP b d ∧ LeP b x
theorem FarP.le {d : Pt} {r : List Pt} {b : Pt} (h : FarP d r b) {x : Pt} (hx : x ∈ r) : dtP x d ≤ dtP b d := by
  rcases h.far x hx with k | k <;> omega
theorem FarP.one {d : Pt} {r : List Pt} {b c : Pt} (h : FarP d r b) (g : FarP d r c) : b = c := by
  rcases h.far c g.mem with k | ⟨k, k'⟩ <;> rcases g.far b h.mem with l | ⟨l, l'⟩
  · omega
  · omega
  · omega
  · exact le_antisymm' k' l'
def bestP (d b x : Pt) : Pt := if dtP b d < dtP x d ∨ dtP x d = dtP b d ∧ LtP x b then x else b
theorem LeP.tr {a b c : Pt} (h : LeP a b) (g : LeP b c) : LeP a c := by unfold LeP at *; omega
theorem best_far {d : Pt} : ∀ (l m : List Pt) (b : Pt), FarP d m b → FarP d (m ++ l) (l.foldl (bestP d) b)
  | [], m, b, h => by rw [List.append_nil]; exact h
  | x :: l, m, b, h => by
    have e : m ++ x :: l = (m ++ [x]) ++ l := by simp
    rw [e, List.foldl_cons]
    refine best_far l (m ++ [x]) _ ?_
    unfold bestP
    split
    · rename_i k
      refine ⟨by simp, fun y hy => ?_⟩
      rcases List.mem_append.1 hy with g | g
      · have t := h.far y g
        rcases k with k | ⟨k, k'⟩
        · exact .inl (by rcases t with t | t <;> omega)
        · rcases t with t | ⟨t, t'⟩
          · exact .inl (by omega)
          · exact .inr ⟨by omega, LeP.tr (by unfold LtP at k'; unfold LeP; omega) t'⟩
      · rw [List.mem_singleton] at g
        subst g
        exact .inr ⟨rfl, le_refl' _⟩
    · rename_i k
      refine ⟨List.mem_append_left _ h.mem, fun y hy => ?_⟩
      rcases List.mem_append.1 hy with g | g
      · exact h.far y g
      · rw [List.mem_singleton] at g
        subst g
        rcases Int.lt_trichotomy (dtP y d) (dtP b d) with c | c | c
        · exact .inl c
        · refine .inr ⟨c, ?_⟩
          rcases lt_tri y b with q | q | q
          · exact absurd (Or.inr ⟨c, q⟩) k
          · subst q; exact le_refl' _
          · unfold LtP at q; unfold LeP; omega
        · exact absurd (Or.inl c) k
theorem far_of {d a : Pt} {r : List Pt} (ha : r.head? = some a) : FarP d r (r.foldl (bestP d) a) := by
  cases r with
  | nil => cases ha
  | cons b l =>
    obtain rfl := Option.some.inj ha
    have e : bestP d b b = b := by unfold bestP; split <;> rfl
    rw [List.foldl_cons, e]
    exact best_far l [b] b ⟨by simp, fun x hx => by rw [List.mem_singleton] at hx; subst hx; exact .inr ⟨rfl, le_refl' _⟩⟩
/-- the least and the greatest scalar product -/
structure WidP (d : Pt) (r : List Pt) (lo hi : Int) : Prop where
  low : ∀ x ∈ r, lo ≤ dtP x d
  high : ∀ x ∈ r, dtP x d ≤ hi
  atl : ∃ x ∈ r, dtP x d = lo
  ath : ∃ x ∈ r, dtP x d = hi
theorem WidP.one {d : Pt} {r : List Pt} {a b a' b' : Int} (h : WidP d r a b) (g : WidP d r a' b') : a = a' ∧ b = b' := by
  obtain ⟨x, hx, ex⟩ := h.atl
  obtain ⟨y, hy, ey⟩ := h.ath
  obtain ⟨z, hz, ez⟩ := g.atl
  obtain ⟨w, hw, ew⟩ := g.ath
  have := h.low z hz
  have := h.high w hw
  have := g.low x hx
  have := g.high y hy
  omega
def widStep (d : Pt) (s : Int × Int) (x : Pt) : Int × Int := (min s.1 (dtP x d), max s.2 (dtP x d))
theorem wid_step {d : Pt} : ∀ (l m : List Pt) (s : Int × Int), WidP d m s.1 s.2 → WidP d (m ++ l) (l.foldl (widStep d) s).1 (l.foldl (widStep d) s).2
  | [], m, s, h => by rw [List.append_nil]; exact h
  | x :: l, m, s, h => by
    have e : m ++ x :: l = (m ++ [x]) ++ l := by simp
    rw [e, List.foldl_cons]
    refine wid_step l (m ++ [x]) _ ⟨fun y hy => ?_, fun y hy => ?_, ?_, ?_⟩
    · show min s.1 (dtP x d) ≤ _
      rcases List.mem_append.1 hy with g | g
      · have := h.low y g; omega
      · rw [List.mem_singleton] at g; subst g; omega
    · show _ ≤ max s.2 (dtP x d)
      rcases List.mem_append.1 hy with g | g
      · have := h.high y g; omega
      · rw [List.mem_singleton] at g; subst g; omega
    · show ∃ y ∈ m ++ [x], dtP y d = min s.1 (dtP x d)
      rcases Int.le_total s.1 (dtP x d) with c | c
      · obtain ⟨y, hy, ey⟩ := h.atl
        exact ⟨y, List.mem_append_left _ hy, by omega⟩
      · exact ⟨x, by simp, by omega⟩
    · show ∃ y ∈ m ++ [x], dtP y d = max s.2 (dtP x d)
      rcases Int.le_total s.2 (dtP x d) with c | c
      · exact ⟨x, by simp, by omega⟩
      · obtain ⟨y, hy, ey⟩ := h.ath
        exact ⟨y, List.mem_append_left _ hy, by omega⟩
theorem wid_of {d a : Pt} {r : List Pt} (ha : r.head? = some a) : WidP d r (r.foldl (widStep d) (dtP a d, dtP a d)).1 (r.foldl (widStep d) (dtP a d, dtP a d)).2 := by
  cases r with
  | nil => cases ha
  | cons b l =>
    obtain rfl := Option.some.inj ha
    have e : widStep d (dtP b d, dtP b d) b = (dtP b d, dtP b d) := by unfold widStep; simp only; rw [Int.min_self, Int.max_self]
    rw [List.foldl_cons, e]
    exact wid_step l [b] _ ⟨fun x hx => by rw [List.mem_singleton] at hx; subst hx; exact Int.le_refl _, fun x hx => by rw [List.mem_singleton] at hx; subst hx; exact Int.le_refl _, ⟨b, by simp, rfl⟩, ⟨b, by simp, rfl⟩⟩
/-- the width is the scalar product with the difference of the farthest vertices -/
theorem wid_far {d a b : Pt} {r : List Pt} {lo hi : Int} (h : WidP d r lo hi) (ha : FarP d r a) (hb : FarP (ngP d) r b) : hi - lo = d.1 * (a.1 - b.1) + d.2 * (a.2 - b.2) ∧ 0 ≤ hi - lo := by
  have ng : ∀ x, dtP x (ngP d) = -dtP x d := fun x => by unfold dtP ngP; grind
  obtain ⟨x, hx, ex⟩ := h.atl
  obtain ⟨y, hy, ey⟩ := h.ath
  have t1 := ha.le hy
  have t2 := h.high a ha.mem
  have t3 := hb.le hx
  rw [ng, ng] at t3
  have t4 := h.low b hb.mem
  have t5 := h.low y hy
  have e : d.1 * (a.1 - b.1) + d.2 * (a.2 - b.2) = dtP a d - dtP b d := by unfold dtP; grind
  rw [e]
  omega
/-- moved points have the same width -/
theorem wid_moved {d v : Pt} {r : List Pt} {a b a' b' : Int} (h : WidP d r a b) (g : WidP d (r.map (mvP v)) a' b') : b - a = b' - a' := by
  have mv : ∀ x, dtP (mvP v x) d = dtP x d + dtP v d := fun x => by unfold dtP mvP; grind
  have : WidP d (r.map (mvP v)) (a + dtP v d) (b + dtP v d) := by
    refine ⟨fun y hy => ?_, fun y hy => ?_, ?_, ?_⟩
    · obtain ⟨x, hx, rfl⟩ := List.mem_map.1 hy
      have := h.low x hx
      rw [mv]; omega
    · obtain ⟨x, hx, rfl⟩ := List.mem_map.1 hy
      have := h.high x hx
      rw [mv]; omega
    · obtain ⟨x, hx, e⟩ := h.atl
      exact ⟨_, List.mem_map_of_mem hx, by rw [mv, e]⟩
    · obtain ⟨x, hx, e⟩ := h.ath
      exact ⟨_, List.mem_map_of_mem hx, by rw [mv, e]⟩
  have := this.one g
  omega
/-- the greatest squared distance -/
structure DiaP (r : List Pt) (n : Int) : Prop where
  most : ∀ x ∈ r, ∀ y ∈ r, sqP x y ≤ n
  pair : ∃ i k, k < i ∧ i < r.length ∧ sqP (at_ r i) (at_ r k) = n
theorem DiaP.one {r : List Pt} {n m : Int} (h : DiaP r n) (g : DiaP r m) : n = m := by
  obtain ⟨i, k, hk, hi, e⟩ := h.pair
  obtain ⟨j, l, hl, hj, f⟩ := g.pair
  have := h.most _ (vx_mem hj) _ (vx_mem (show l < r.length by omega))
  have := g.most _ (vx_mem hi) _ (vx_mem (show k < r.length by omega))
  omega
/-- the squared width is at most the squared diameter times the square of the direction -/
theorem wid_dia {d : Pt} {r : List Pt} {lo hi n : Int} (h : WidP d r lo hi) (g : DiaP r n) : (hi - lo) * (hi - lo) ≤ n * (d.1 * d.1 + d.2 * d.2) := by
  obtain ⟨x, hx, ex⟩ := h.atl
  obtain ⟨y, hy, ey⟩ := h.ath
  have c := cauchy d.1 d.2 (y.1 - x.1) (y.2 - x.2)
  have e : d.1 * (y.1 - x.1) + d.2 * (y.2 - x.2) = hi - lo := by rw [← ex, ← ey]; unfold dtP; grind
  rw [e] at c
  have m := g.most x hx y hy
  have s : 0 ≤ d.1 * d.1 + d.2 * d.2 := by
    have := sq_nonneg d.1
    have := sq_nonneg d.2
    omega
  have t := Int.mul_le_mul_of_nonneg_right m s
  unfold sqP at t
  omega
end Go.Proofs.Ythifljljaejfmaa.G
