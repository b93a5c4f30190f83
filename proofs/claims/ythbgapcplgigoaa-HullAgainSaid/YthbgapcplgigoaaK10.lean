/-
  hull, plain: the two chains over sorted points with repetitions are the hull, or have fewer than three points if all lie on a line. No condition but those that stand.
-/
import Derived.Test.YthbgapcplgigoaaK05
import Derived.Test.YthbgapcplgigoaaK08
namespace Go.Proofs.Ythbgapcplgigoaa.G
open Go.RowKit Go.Proofs.Ythbgapcplgigoaa.V Go.Proofs.Ythbgapcplgigoaa.W

def stepC (S : List Pt) (p : Pt) : List Pt := p :: popC p S
theorem chain_step (l : List Pt) : chainC l = l.foldl stepC [] := rfl
/-- without those that are equal to the one ahead -/
def ddF (a : Pt) : List Pt → List Pt
  | [] => []
  | x :: m => if x = a then ddF a m else x :: ddF x m
theorem crs_same (a p : Pt) : crsP a p p = 0 := by unfold crsP crs; grind
theorem pop_idem (p : Pt) : ∀ S, popC p (popC p S) = popC p S
  | [] => rfl
  | [_] => rfl
  | b :: a :: r => by
    by_cases h : crsP a b p ≤ 0
    · rw [show popC p (b :: a :: r) = popC p (a :: r) by rw [popC, if_pos h]]
      exact pop_idem p (a :: r)
    · have e : popC p (b :: a :: r) = b :: a :: r := by rw [popC, if_neg h]
      rw [e, e]
/-- the same but for one point alone, which may lie there twice -/
def SimC (S T : List Pt) : Prop := S = T ∨ ∃ p, S = [p, p] ∧ T = [p]
theorem sim_fold : ∀ (m S T : List Pt) (a : Pt), T.head? = some a → popC a T.tail = T.tail → SimC S T → SimC (m.foldl stepC S) ((ddF a m).foldl stepC T)
  | [], S, T, a, _, _, h => h
  | x :: m, S, T, a, ha, hp, h => by
    obtain ⟨T', rfl⟩ : ∃ T', T = a :: T' := by
      cases T with
      | nil => cases ha
      | cons b r => exact ⟨r, by obtain rfl := Option.some.inj ha; rfl⟩
    rw [List.tail_cons] at hp
    by_cases e : x = a
    · subst e
      have ed : ddF x (x :: m) = ddF x m := by rw [ddF, if_pos rfl]
      rw [ed, List.foldl_cons]
      refine sim_fold m _ _ x rfl hp ?_
      rcases h with rfl | ⟨p, rfl, e⟩
      · cases T' with
        | nil => exact .inr ⟨x, rfl, rfl⟩
        | cons b r =>
          refine .inl ?_
          unfold stepC
          rw [popC, if_pos (by rw [crs_same]; exact Int.le_refl 0), hp]
      · obtain ⟨rfl, rfl⟩ : x = p ∧ T' = [] := by simpa using e
        refine .inr ⟨x, ?_, rfl⟩
        unfold stepC
        rw [popC, if_pos (by rw [crs_same]; exact Int.le_refl 0)]
        rfl
    · have ed : ddF a (x :: m) = x :: ddF x m := by rw [ddF, if_neg e]
      rw [ed, List.foldl_cons, List.foldl_cons]
      refine sim_fold m _ _ x rfl (pop_idem x (a :: T')) (.inl ?_)
      rcases h with rfl | ⟨p, rfl, e'⟩
      · rfl
      · obtain ⟨rfl, rfl⟩ : a = p ∧ T' = [] := by simpa using e'
        have : crsP a a x = 0 := by unfold crsP crs; grind
        have e2 : popC x [a, a] = popC x [a] := by simp [popC, this]
        show x :: popC x [a, a] = x :: popC x [a]
        rw [e2]
theorem chain_dd (x : Pt) (m : List Pt) : SimC (chainC (x :: m)) (chainC (x :: ddF x m)) := by
  rw [chain_step, chain_step, List.foldl_cons, List.foldl_cons]
  exact sim_fold m _ _ x rfl rfl (.inl rfl)
theorem ddF_mem (z : Pt) : ∀ (m : List Pt) (a : Pt), z ∈ a :: ddF a m ↔ z ∈ a :: m
  | [], a => Iff.rfl
  | x :: m, a => by
    by_cases e : x = a
    · subst e
      rw [ddF, if_pos rfl, ddF_mem z m x]
      simp
    · rw [ddF, if_neg e, List.mem_cons, ddF_mem z m x, List.mem_cons (b := a)]
theorem ddF_pair {R : Pt → Pt → Prop} (hR : ∀ x y z, R x y → R y z → R x z) : ∀ (m : List Pt) (a : Pt), (a :: m).Pairwise (fun x y => x = y ∨ R x y) → (a :: ddF a m).Pairwise R
  | [], a, _ => by simp [ddF]
  | x :: m, a, h => by
    obtain ⟨h1, h2⟩ := List.pairwise_cons.1 h
    have ih := ddF_pair hR m x h2
    by_cases e : x = a
    · subst e
      rw [ddF, if_pos rfl]
      exact ih
    · rw [ddF, if_neg e]
      have hax : R a x := (h1 x List.mem_cons_self).resolve_left fun k => e k.symm
      refine List.pairwise_cons.2 ⟨fun z hz => ?_, ih⟩
      rcases List.mem_cons.1 hz with rfl | hz'
      · exact hax
      · exact hR _ _ _ hax ((List.pairwise_cons.1 ih).1 z hz')
theorem ltV_lt {a b : Pt} : ltV a b ↔ LtP a b := less_lt
/-- sorted, with repetitions -/
def SortP (l : List Pt) : Prop := l.Pairwise fun x y => x = y ∨ LtP x y
theorem sort_sortP (l : List Pt) : SortP (sortV l) := by
  have h := sort_wk l
  refine h.imp fun {x y} k => ?_
  rcases ltV_tri x y with c | c | c
  · exact .inr (ltV_lt.1 c)
  · exact .inl c
  · exact absurd c k
theorem sort_mem' {l : List Pt} {x : Pt} : x ∈ sortV l ↔ x ∈ l := by
  unfold sortV
  rw [List.mem_mergeSort]
theorem asc_one {a b : List Pt} (ha : a.Pairwise LtP) (hb : b.Pairwise LtP) (h : ∀ x, x ∈ a ↔ x ∈ b) : a = b :=
  asc_unique (ha.imp fun k => ltV_lt.2 k) (hb.imp fun k => ltV_lt.2 k) h
theorem sim_sorted {s l : List Pt} (hs : SortP s) (hm : ∀ x, x ∈ s ↔ x ∈ l) : SimC (chainC s) (chainC (ascP l)) := by
  cases s with
  | nil =>
    have : ascP l = [] := List.eq_nil_iff_forall_not_mem.2 fun x hx => by have := (hm x).2 (ascP_mem.1 hx); cases this
    rw [this]
    exact .inl rfl
  | cons x m =>
    have e : x :: ddF x m = ascP l := asc_one (ddF_pair (fun _ _ _ h k => h.trans k) m x hs) (ascP_asc l) fun z => by rw [ddF_mem, hm, ascP_mem]
    rw [← e]
    exact chain_dd x m
theorem sim_back {s l : List Pt} (hs : SortP s) (hm : ∀ x, x ∈ s ↔ x ∈ l) : SimC (chainC s.reverse) (chainC (ascP l).reverse) := by
  have hr : s.reverse.Pairwise fun x y => x = y ∨ LtP y x := by
    rw [List.pairwise_reverse]
    exact hs.imp fun {x y} k => k.imp Eq.symm id
  cases hsr : s.reverse with
  | nil =>
    have : ascP l = [] := List.eq_nil_iff_forall_not_mem.2 fun x hx => by
      have := (hm x).2 (ascP_mem.1 hx)
      rw [← List.mem_reverse, hsr] at this
      cases this
    rw [this]
    exact .inl rfl
  | cons x m =>
    rw [hsr] at hr
    have e : (x :: ddF x m).reverse = ascP l := asc_one (by
      rw [List.pairwise_reverse]
      exact ddF_pair (R := fun x y => LtP y x) (fun _ _ _ h k => k.trans h) m x hr) (ascP_asc l) fun z => by rw [List.mem_reverse, ddF_mem, ← hsr, List.mem_reverse, hm, ascP_mem]
    rw [← e, List.reverse_reverse]
    exact chain_dd x m
theorem pop_ng (p : Pt) : ∀ S, popC (ngP p) (S.map ngP) = (popC p S).map ngP
  | [] => rfl
  | [_] => rfl
  | b :: a :: r => by
    have ih := pop_ng p (a :: r)
    rw [List.map_cons, List.map_cons, popC, popC, crsP_ng]
    split
    · rw [← ih]; rfl
    · rfl
theorem chain_ng (l : List Pt) : chainC (l.map ngP) = (chainC l).map ngP := by
  have : ∀ (l S : List Pt), (l.map ngP).foldl stepC (S.map ngP) = (l.foldl stepC S).map ngP := by
    intro l
    induction l with
    | nil => intro S; rfl
    | cons p l ih =>
      intro S
      rw [List.map_cons, List.foldl_cons, List.foldl_cons, ← ih]
      unfold stepC
      rw [pop_ng]
      rfl
  exact this l []
theorem map_ng (l : List Pt) : (l.map ngP).map ngP = l := by
  rw [List.map_map]
  have : ngP ∘ ngP = id := funext ngP_ng
  rw [this, List.map_id]
theorem upp_eq (l : List Pt) : uppC l = (chainC l.reverse).reverse := by
  unfold uppC lowC
  rw [chain_ng, ← List.map_reverse, map_ng]
/-- what the program makes of sorted points -/
def ringD (s : List Pt) : List Pt := (chainC s).reverse.dropLast ++ (chainC s.reverse).reverse.dropLast
theorem ringC_eq (l : List Pt) : ringC l = (chainC l).reverse.dropLast ++ (chainC l.reverse).reverse.dropLast := by
  unfold ringC
  rw [upp_eq]
  rfl
theorem chain_one {l : List Pt} {p : Pt} (hs : l.Pairwise LtP) (h : chainC l = [p]) : l = [p] := by
  cases l with
  | nil => cases h
  | cons a m =>
    obtain ⟨_, _, e1, e2, _⟩ := chain_all hs
    rw [h] at e1 e2
    obtain rfl : p = a := by simpa using e1
    cases m with
    | nil => rfl
    | cons b r =>
      exfalso
      have hz : (p :: b :: r).getLast? = some p := e2.symm
      rw [List.getLast?_cons_cons] at hz
      have := List.mem_of_getLast? hz
      have := (List.pairwise_cons.1 hs).1 p this
      exact not_ltP _ this
theorem ringD_spec {s l : List Pt} (hs : SortP s) (hm : ∀ x, x ∈ s ↔ x ∈ l) : (¬ FlatP l → ringD s = ringC (ascP l)) ∧ (FlatP l → (ringD s).length ≤ 2) := by
  have h1 := sim_sorted hs hm
  have h2 := sim_back hs hm
  have flat1 : ∀ {p : Pt}, ascP l = [p] → FlatP l := fun {p} e x y w hx hy hw => by
    have g : ∀ z ∈ l, z = p := fun z hz => by have := ascP_mem.2 hz; rw [e] at this; simpa using this
    rw [g x hx, g y hy, g w hw]
    exact crs_same _ _
  have one : ∀ {p : Pt}, ascP l = [p] → (ringD s).length ≤ 2 := fun {p} e => by
    rw [e] at h1 h2
    have k1 : (chainC s).length ≤ 2 := by
      rcases h1 with h | ⟨q, h, _⟩
      · rw [h]; exact Nat.le_succ 1
      · rw [h]; exact Nat.le_refl 2
    have k2 : (chainC s.reverse).length ≤ 2 := by
      rcases h2 with h | ⟨q, h, _⟩
      · rw [h]; exact Nat.le_succ 1
      · rw [h]; exact Nat.le_refl 2
    unfold ringD
    simp
    omega
  rcases h1 with h1 | ⟨p, _, h1⟩
  · rcases h2 with h2 | ⟨p, _, h2⟩
    · have e : ringD s = ringC (ascP l) := by unfold ringD; rw [h1, h2, ringC_eq]
      refine ⟨fun _ => e, fun f => ?_⟩
      rw [e]
      cases ha : ascP l with
      | nil => exact Nat.zero_le _
      | cons a m =>
        have hz : (a :: m).getLast? = some ((a :: m).getLast (by simp)) := List.getLast?_eq_some_getLast (by simp)
        refine ring_line (a := a) (z := (a :: m).getLast (by simp)) (by rw [← ha]; exact ascP_asc l) rfl hz fun q hq => ?_
        have mem : ∀ {z : Pt}, z ∈ a :: m → z ∈ l := fun {z} hz => by rw [← ha] at hz; exact ascP_mem.1 hz
        exact f _ _ _ (mem List.mem_cons_self) (mem (List.getLast_mem _)) (mem hq)
    · have hp : (ascP l).reverse.reverse.map ngP = [ngP p] := by
        have h : chainC ((ascP l).reverse.map ngP) = [ngP p] := by rw [chain_ng, h2]; rfl
        have e := chain_one (asc_ng (ascP_asc l)) h
        have : (ascP l).reverse = [p] := by
          have g := congrArg (List.map ngP) e
          rw [map_ng] at g
          rw [g]
          simp [ngP_ng]
        rw [this]; rfl
      have e : ascP l = [p] := by
        have g := congrArg (List.map ngP) hp
        rw [map_ng, List.reverse_reverse] at g
        rw [g]
        simp [ngP_ng]
      exact ⟨fun f => absurd (flat1 e) f, fun _ => one e⟩
  · have e := chain_one (ascP_asc l) h1
    exact ⟨fun f => absurd (flat1 e) f, fun _ => one e⟩
/-- Hull, as the program makes it -/
theorem hullH_eq {l : List Pt} (h4 : ¬ 400 < l.length) (hs : allS l = true) : hullH l = if (ringD (sortV l)).length < 3 then ([], 11) else if 160 < (ringD (sortV l)).length then ([], 9) else (ringD (sortV l), 0) := by
  obtain ⟨a, b⟩ := ringD_spec (sort_sortP l) (l := l) (fun x => sort_mem')
  have hcol := colB_iff hs
  unfold hullH
  rw [if_neg h4, hs]
  by_cases f : FlatP l
  · have := b f
    rw [hcol.2 f, if_pos (by omega : (ringD (sortV l)).length < 3)]
    rfl
  · rw [show colB l = false by rw [← Bool.not_eq_true, hcol]; exact f, a f]
    have h3 := (hull_exists f).conv.1
    rw [if_neg (by omega : ¬ (ringC (ascP l)).length < 3)]
    rfl
end Go.Proofs.Ythbgapcplgigoaa.G
