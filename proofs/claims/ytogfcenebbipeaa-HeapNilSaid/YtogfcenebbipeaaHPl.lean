/-
  Plain mathematics of a binary heap of numbered elements: what a raise and a lowering do to its order, what comes out first, how many comparisons there are. Nothing of the dump. No condition.
-/
import Derived.RowKit
namespace Go.Proofs.Ytogfcenebbipeaa.Pl

/-- an entry: (key, tag), number -/
abbrev Ent := (Int × Int) × Nat
def lt (rk : Int → Int) (a b : Ent) : Prop := rk a.1.1 < rk b.1.1 ∨ rk a.1.1 = rk b.1.1 ∧ a.2 < b.2
instance (rk : Int → Int) (a b : Ent) : Decidable (lt rk a b) := by unfold lt; infer_instance
def le (rk : Int → Int) (a b : Ent) : Prop := ¬ lt rk b a
def aheadE (rk : Int → Int) (a b : Ent) : Bool := decide (lt rk a b)
theorem aheadE_t {rk : Int → Int} {a b : Ent} (h : aheadE rk a b = true) : lt rk a b := of_decide_eq_true h
theorem aheadE_f {rk : Int → Int} {a b : Ent} (h : aheadE rk a b = false) : ¬ lt rk a b := of_decide_eq_false h
theorem aheadE_lt {rk : Int → Int} {a b : Ent} (h : a.2 < b.2) : (!decide (rk b.1.1 < rk a.1.1)) = aheadE rk a b := by
  unfold aheadE
  by_cases h1 : rk b.1.1 < rk a.1.1
  · rw [decide_eq_true h1, decide_eq_false (by unfold lt; omega)]; rfl
  · rw [decide_eq_false h1, decide_eq_true (by unfold lt; omega)]; rfl
theorem aheadE_ge {rk : Int → Int} {a b : Ent} (h : ¬ a.2 < b.2) : decide (rk a.1.1 < rk b.1.1) = aheadE rk a b := by
  unfold aheadE
  by_cases h1 : rk a.1.1 < rk b.1.1
  · rw [decide_eq_true h1, decide_eq_true (by unfold lt; omega)]
  · rw [decide_eq_false h1, decide_eq_false (by unfold lt; omega)]

def gt (l : List Ent) (j : Nat) : Ent := l.getD j ((0, 0), 0)
def sw (l : List Ent) (i j : Nat) : List Ent := (l.set i (gt l j)).set j (gt l i)
theorem sw_length (l : List Ent) (i j : Nat) : (sw l i j).length = l.length := by simp [sw]
theorem gt_set (l : List Ent) (i j : Nat) (x : Ent) : gt (l.set i x) j = if i = j ∧ i < l.length then x else gt l j := by
  unfold gt
  rw [List.getD_eq_getElem?_getD, List.getD_eq_getElem?_getD, List.getElem?_set]
  by_cases h : i = j
  · subst h
    by_cases h2 : i < l.length
    · simp [h2]
    · simp [h2]
  · simp [h]
theorem gt_sw {l : List Ent} {i j : Nat} (hi : i < l.length) (hj : j < l.length) (k : Nat) : gt (sw l i j) k = if k = j then gt l i else if k = i then gt l j else gt l k := by
  unfold sw
  rw [gt_set, gt_set, List.length_set]
  by_cases h1 : k = j
  · subst h1; simp [hj]
  · by_cases h2 : k = i
    · subst h2
      have : ¬ j = k := fun e => h1 e.symm
      simp [hi, this, h1]
    · have e1 : ¬ j = k := fun e => h1 e.symm
      have e2 : ¬ i = k := fun e => h2 e.symm
      simp [e1, e2, h1, h2]
theorem gt_eq {l : List Ent} {i : Nat} (hi : i < l.length) : gt l i = l[i] := by
  unfold gt
  rw [List.getD_eq_getElem?_getD, List.getElem?_eq_getElem hi]
  rfl
theorem gt_get? {l : List Ent} {i : Nat} (hi : i < l.length) : l[i]? = some (gt l i) := by rw [gt_eq hi, List.getElem?_eq_getElem hi]
theorem sw_perm {l : List Ent} {i j : Nat} (hi : i < l.length) (hj : j < l.length) : (sw l i j).Perm l := by
  unfold sw
  rw [gt_eq hi, gt_eq hj]
  exact List.set_set_perm hi hj
theorem gt_mem {l : List Ent} {i : Nat} (hi : i < l.length) : gt l i ∈ l := by rw [gt_eq hi]; exact List.getElem_mem hi

def Hp (rk : Int → Int) (l : List Ent) : Prop := ∀ j, j < l.length → 0 < j → le rk (gt l ((j - 1) / 2)) (gt l j)
def UpH (rk : Int → Int) (l : List Ent) (i : Nat) : Prop :=
  (∀ j, j < l.length → 0 < j → j ≠ i → le rk (gt l ((j - 1) / 2)) (gt l j)) ∧ (∀ j, j < l.length → 0 < j → (j - 1) / 2 = i → 0 < i → le rk (gt l ((i - 1) / 2)) (gt l j))
def DownH (rk : Int → Int) (l : List Ent) (i : Nat) : Prop :=
  (∀ j, j < l.length → 0 < j → (j - 1) / 2 ≠ i → le rk (gt l ((j - 1) / 2)) (gt l j)) ∧ (∀ j, j < l.length → 0 < j → (j - 1) / 2 = i → 0 < i → le rk (gt l ((i - 1) / 2)) (gt l j))

theorem le_trans' {rk : Int → Int} {a b c : Ent} (h : le rk a b) (k : le rk b c) : le rk a c := by unfold le lt at *; omega
theorem le_of_lt {rk : Int → Int} {a b : Ent} (h : lt rk a b) : le rk a b := by unfold le lt at *; omega
theorem le_refl' (rk : Int → Int) (a : Ent) : le rk a a := by unfold le lt; omega

theorem up_start {rk : Int → Int} {l : List Ent} (h : Hp rk l) (x : Ent) : UpH rk (l ++ [x]) l.length := by
  have e : ∀ k, k < l.length → gt (l ++ [x]) k = gt l k := fun k hk => by
    unfold gt
    rw [List.getD_eq_getElem?_getD, List.getD_eq_getElem?_getD, List.getElem?_append_left hk]
  refine ⟨fun j hj h0 hne => ?_, fun j hj h0 hp _ => ?_⟩
  · rw [List.length_append, List.length_singleton] at hj
    have hj' : j < l.length := by omega
    rw [e _ hj', e _ (by omega)]
    exact h j hj' h0
  · rw [List.length_append, List.length_singleton] at hj
    omega
theorem up_zero {rk : Int → Int} {l : List Ent} (h : UpH rk l 0) : Hp rk l := fun j hj h0 => h.1 j hj h0 (by omega)
theorem up_stop {rk : Int → Int} {l : List Ent} {i : Nat} (h : UpH rk l i) (hn : ¬ lt rk (gt l i) (gt l ((i - 1) / 2))) : Hp rk l := fun j hj h0 => by
  by_cases hji : j = i
  · subst hji; exact hn
  · exact h.1 j hj h0 hji
theorem up_go {rk : Int → Int} {l : List Ent} {i : Nat} (h : UpH rk l i) (hi : i < l.length) (h0 : 0 < i) (hn : lt rk (gt l i) (gt l ((i - 1) / 2))) : UpH rk (sw l i ((i - 1) / 2)) ((i - 1) / 2) := by
  have hp : (i - 1) / 2 < l.length := by omega
  have G := fun k => gt_sw hi hp k
  have hne : i ≠ (i - 1) / 2 := by omega
  refine ⟨fun j hj hj0 hjp => ?_, fun j hj hj0 hjp hp0 => ?_⟩
  · rw [sw_length] at hj
    rw [G, G, if_neg hjp]
    by_cases hji : j = i
    · subst hji
      rw [if_pos rfl, if_pos rfl]
      exact le_of_lt hn
    · rw [if_neg hji]
      by_cases hpp : (j - 1) / 2 = (i - 1) / 2
      · rw [if_pos hpp]
        have := h.1 j hj hj0 hji
        rw [hpp] at this
        exact le_trans' (le_of_lt hn) this
      · rw [if_neg hpp]
        by_cases hpi : (j - 1) / 2 = i
        · rw [if_pos hpi]
          exact h.2 j hj hj0 hpi h0
        · rw [if_neg hpi]
          exact h.1 j hj hj0 hji
  · rw [sw_length] at hj
    have hq := h.1 ((i - 1) / 2) hp hp0 (fun e => hne e.symm)
    rw [G, G, if_neg (by omega), if_neg (by omega), if_neg (by omega : ¬ j = (i - 1) / 2)]
    by_cases hji : j = i
    · subst hji; rw [if_pos rfl]; exact hq
    · rw [if_neg hji]
      have := h.1 j hj hj0 hji
      rw [hjp] at this
      exact le_trans' hq this

theorem down_start {rk : Int → Int} {l l' : List Ent} (h : Hp rk l) (hl : l'.length ≤ l.length) (he : ∀ j, 0 < j → j < l'.length → gt l' j = gt l j) : DownH rk l' 0 := by
  refine ⟨fun j hj h0 hp => ?_, fun j hj h0 hp hi => absurd hi (Nat.lt_irrefl 0)⟩
  rw [he j h0 hj, he ((j - 1) / 2) (by omega) (by omega)]
  exact h j (by omega) h0
theorem down_end {rk : Int → Int} {l : List Ent} {i : Nat} (h : DownH rk l i) (hn : ¬ 2 * i + 1 < l.length) : Hp rk l := fun j hj h0 => h.1 j hj h0 (by omega)
/-- the child that is looked at -/
def Child (rk : Int → Int) (l : List Ent) (i c : Nat) : Prop :=
  c = 2 * i + 1 ∧ (2 * i + 2 < l.length → ¬ lt rk (gt l (2 * i + 2)) (gt l (2 * i + 1))) ∨ c = 2 * i + 2 ∧ lt rk (gt l (2 * i + 2)) (gt l (2 * i + 1))
theorem child_le {rk : Int → Int} {l : List Ent} {i c j : Nat} (hc : Child rk l i c) (hj : j < l.length) (h0 : 0 < j) (hp : (j - 1) / 2 = i) : le rk (gt l c) (gt l j) := by
  have hj2 : j = 2 * i + 1 ∨ j = 2 * i + 2 := by omega
  rcases hc with ⟨rfl, h⟩ | ⟨rfl, h⟩
  · rcases hj2 with rfl | rfl
    · exact le_refl' _ _
    · exact h hj
  · rcases hj2 with rfl | rfl
    · exact le_of_lt h
    · exact le_refl' _ _
theorem down_stop {rk : Int → Int} {l : List Ent} {i c : Nat} (h : DownH rk l i) (hc : Child rk l i c) (hn : ¬ lt rk (gt l c) (gt l i)) : Hp rk l := fun j hj h0 => by
  by_cases hp : (j - 1) / 2 = i
  · rw [hp]
    exact le_trans' hn (child_le hc hj h0 hp)
  · exact h.1 j hj h0 hp
theorem down_go {rk : Int → Int} {l : List Ent} {i c : Nat} (h : DownH rk l i) (hc : Child rk l i c) (hcl : c < l.length) (hn : lt rk (gt l c) (gt l i)) : DownH rk (sw l i c) c := by
  have hc2 : c = 2 * i + 1 ∨ c = 2 * i + 2 := by rcases hc with ⟨rfl, _⟩ | ⟨rfl, _⟩ <;> simp
  have hi : i < l.length := by omega
  have hpc : (c - 1) / 2 = i := by omega
  have G := fun k => gt_sw hi hcl k
  refine ⟨fun j hj hj0 hjp => ?_, fun j hj hj0 hjp hp0 => ?_⟩
  · rw [sw_length] at hj
    rw [G, G, if_neg hjp]
    by_cases hjc : j = c
    · subst hjc
      rw [if_pos rfl, if_pos hpc]
      exact le_of_lt hn
    · rw [if_neg hjc]
      by_cases hji : j = i
      · subst hji
        rw [if_pos rfl, if_neg (by omega)]
        exact h.2 c hcl (by omega) hpc hj0
      · rw [if_neg hji]
        by_cases hpi : (j - 1) / 2 = i
        · rw [if_pos hpi]
          exact child_le hc hj hj0 hpi
        · rw [if_neg hpi]
          exact h.1 j hj hj0 hpi
  · rw [sw_length] at hj
    rw [G, G, if_neg (by omega : ¬ (c - 1) / 2 = c), if_pos hpc, if_neg (by omega : ¬ j = c), if_neg (by omega : ¬ j = i)]
    have := h.1 j hj hj0 (by omega)
    rw [hjp] at this
    exact this

theorem hp_min {rk : Int → Int} {l : List Ent} (h : Hp rk l) : ∀ (j : Nat), j < l.length → le rk (gt l 0) (gt l j) := by
  intro j
  induction j using Nat.strongRecOn with
  | _ j ih =>
    intro hj
    rcases Nat.eq_zero_or_pos j with rfl | h0
    · exact le_refl' _ _
    · exact le_trans' (ih ((j - 1) / 2) (by omega) (by omega)) (h j hj h0)

def Sorted (rk : Int → Int) (q : List Ent) : Prop := q.Pairwise (lt rk)
theorem top_eq {rk : Int → Int} {l q : List Ent} {x : Ent} (hp : l.Perm (x :: q)) (hs : Sorted rk (x :: q)) (h : Hp rk l) : gt l 0 = x := by
  have hlen := hp.length_eq
  rw [List.length_cons] at hlen
  have h0 : 0 < l.length := by omega
  have hm : gt l 0 ∈ x :: q := hp.mem_iff.1 (gt_mem h0)
  rcases List.mem_cons.1 hm with e | e
  · exact e
  · have hx : x ∈ l := hp.mem_iff.2 List.mem_cons_self
    obtain ⟨i, hi, rfl⟩ := List.mem_iff_getElem.1 hx
    have h1 := hp_min h i hi
    rw [gt_eq hi] at h1
    exact absurd ((List.pairwise_cons.1 hs).1 _ e) h1

def popL (l : List Ent) : List Ent := ((l.set 0 (gt l (l.length - 1))).set (l.length - 1) ((0, 0), 0)).take (l.length - 1)
theorem popL_length (l : List Ent) : (popL l).length = l.length - 1 := by simp [popL]
theorem popL_gt {l : List Ent} {j : Nat} (h0 : 0 < j) (hj : j < (popL l).length) : gt (popL l) j = gt l j := by
  have hj' := hj
  rw [popL_length] at hj'
  have e : gt (popL l) j = gt ((l.set 0 (gt l (l.length - 1))).set (l.length - 1) ((0, 0), 0)) j := by
    unfold popL
    generalize (l.set 0 (gt l (l.length - 1))).set (l.length - 1) ((0, 0), 0) = m
    unfold gt
    rw [List.getD_eq_getElem?_getD, List.getD_eq_getElem?_getD, List.getElem?_take_of_lt hj']
  rw [e, gt_set, gt_set, if_neg (by omega), if_neg (by omega)]
theorem popL_perm {l q : List Ent} {x : Ent} (hp : l.Perm (x :: q)) (hx : gt l 0 = x) : (popL l).Perm q := by
  cases l with
  | nil => exact absurd hp.length_eq (by simp)
  | cons y r =>
    obtain rfl : y = x := hx
    have hq : r.Perm q := List.Perm.cons_inv hp
    refine List.Perm.trans ?_ hq
    rcases List.eq_nil_or_concat r with rfl | ⟨s, z, rfl⟩
    · simp [popL]
    · have hz : gt (y :: (s.concat z)) ((y :: s.concat z).length - 1) = z := by
        unfold gt
        simp
      have e : popL (y :: s.concat z) = z :: s := by
        unfold popL
        rw [hz]
        simp [List.set_cons_succ, List.set_append_right]
      rw [e, List.concat_eq_append]
      exact (List.perm_append_singleton z s).symm

def ins (rk : Int → Int) (x : Ent) : List Ent → List Ent
  | [] => [x]
  | y :: q => if rk y.1.1 ≤ rk x.1.1 then y :: ins rk x q else x :: y :: q
theorem ins_perm (rk : Int → Int) (x : Ent) : ∀ q, (ins rk x q).Perm (x :: q)
  | [] => List.Perm.refl _
  | y :: q => by
    unfold ins
    split
    · exact ((ins_perm rk x q).cons y).trans (List.Perm.swap x y q)
    · exact List.Perm.refl _
theorem ins_length (rk : Int → Int) (x : Ent) (q : List Ent) : (ins rk x q).length = q.length + 1 := (ins_perm rk x q).length_eq
theorem ins_sorted {rk : Int → Int} {x : Ent} : ∀ {q : List Ent}, Sorted rk q → (∀ y ∈ q, y.2 < x.2) → Sorted rk (ins rk x q)
  | [], _, _ => List.pairwise_singleton _ _
  | y :: q, h, hn => by
    obtain ⟨h1, h2⟩ := List.pairwise_cons.1 h
    unfold ins
    split
    · rename_i hle
      refine List.pairwise_cons.2 ⟨fun z hz => ?_, ins_sorted h2 fun z hz => hn z (List.mem_cons_of_mem _ hz)⟩
      rcases List.mem_cons.1 ((ins_perm rk x q).mem_iff.1 hz) with rfl | hz
      · have := hn y List.mem_cons_self
        unfold lt
        omega
      · exact h1 z hz
    · rename_i hle
      refine List.pairwise_cons.2 ⟨fun z hz => ?_, h⟩
      rcases List.mem_cons.1 hz with rfl | hz
      · unfold lt; omega
      · have := h1 z hz
        unfold lt at *
        omega

/-- what a heap of this order holds: a sorted list, with numbers below p -/
def GoodQ (rk : Int → Int) (q : List Ent) (p : Nat) : Prop := Sorted rk q ∧ ∀ y ∈ q, y.2 < p
theorem GoodQ.nil (rk : Int → Int) (p : Nat) : GoodQ rk [] p := ⟨List.Pairwise.nil, fun _ h => by cases h⟩
theorem GoodQ.push {rk : Int → Int} {q : List Ent} {p : Nat} (h : GoodQ rk q p) (v : Int × Int) : GoodQ rk (ins rk (v, p) q) (p + 1) :=
  ⟨ins_sorted h.1 h.2, fun y hy => by
    rcases List.mem_cons.1 ((ins_perm rk (v, p) q).mem_iff.1 hy) with rfl | hy
    · exact Nat.lt_succ_self p
    · exact Nat.lt_succ_of_lt (h.2 y hy)⟩
theorem GoodQ.pop {rk : Int → Int} {x : Ent} {q : List Ent} {p : Nat} (h : GoodQ rk (x :: q) p) : GoodQ rk q p := ⟨(List.pairwise_cons.1 h.1).2, fun y hy => h.2 y (List.mem_cons_of_mem _ hy)⟩

/-- pushes of a list, numbered from p on -/
def allQ (rk : Int → Int) : List (Int × Int) → Nat → List Ent → List Ent
  | [], _, q => q
  | x :: l, p, q => allQ rk l (p + 1) (ins rk (x, p) q)
theorem allQ_snoc (rk : Int → Int) (x : Int × Int) : ∀ (l : List (Int × Int)) (p : Nat) (q : List Ent), allQ rk (l ++ [x]) p q = ins rk (x, p + l.length) (allQ rk l p q)
  | [], p, q => rfl
  | y :: l, p, q => by
    rw [List.cons_append, allQ, allQ_snoc rk x l, allQ, List.length_cons]
    have e : p + 1 + l.length = p + (l.length + 1) := by omega
    rw [e]
theorem allQ_length (rk : Int → Int) : ∀ (l : List (Int × Int)) (p : Nat) (q : List Ent), (allQ rk l p q).length = q.length + l.length
  | [], p, q => rfl
  | y :: l, p, q => by rw [allQ, allQ_length rk l, ins_length, List.length_cons]; omega
theorem allQ_good {rk : Int → Int} : ∀ (l : List (Int × Int)) {p : Nat} {q : List Ent}, GoodQ rk q p → GoodQ rk (allQ rk l p q) (p + l.length)
  | [], p, q, h => h
  | y :: l, p, q, h => by
    have := allQ_good l (h.push y)
    rw [allQ, List.length_cons]
    have e : p + 1 + l.length = p + (l.length + 1) := by omega
    rwa [e] at this
/-- the same on elements alone: a sorted insertion -/
def insV (rk : Int → Int) (x : Int × Int) : List (Int × Int) → List (Int × Int)
  | [] => [x]
  | y :: q => if rk y.1 ≤ rk x.1 then y :: insV rk x q else x :: y :: q
def sortV (rk : Int → Int) : List (Int × Int) → List (Int × Int) → List (Int × Int)
  | [], q => q
  | x :: l, q => sortV rk l (insV rk x q)
theorem ins_map (rk : Int → Int) (x : Ent) : ∀ q, (ins rk x q).map (·.1) = insV rk x.1 (q.map (·.1))
  | [] => rfl
  | y :: q => by
    unfold ins
    rw [List.map_cons]
    unfold insV
    split
    · rw [List.map_cons, ins_map rk x q]
    · rfl
theorem allQ_map (rk : Int → Int) : ∀ (l : List (Int × Int)) (p : Nat) (q : List Ent), (allQ rk l p q).map (·.1) = sortV rk l (q.map (·.1))
  | [], p, q => rfl
  | y :: l, p, q => by rw [allQ, allQ_map rk l, ins_map]; rfl
theorem insV_length (rk : Int → Int) (x : Int × Int) : ∀ q, (insV rk x q).length = q.length + 1
  | [] => rfl
  | y :: q => by
    unfold insV
    split
    · rw [List.length_cons, insV_length rk x q, List.length_cons]
    · rfl
theorem sortV_length (rk : Int → Int) : ∀ l q, (sortV rk l q).length = q.length + l.length
  | [], q => rfl
  | x :: l, q => by rw [sortV, sortV_length rk l, insV_length, List.length_cons]; omega
theorem sortV_snoc (rk : Int → Int) (x : Int × Int) : ∀ (l q : List (Int × Int)), sortV rk (l ++ [x]) q = insV rk x (sortV rk l q)
  | [], q => rfl
  | y :: l, q => by rw [List.cons_append, sortV, sortV_snoc rk x l, sortV]
theorem sortV_app (rk : Int → Int) : ∀ (l m q : List (Int × Int)), sortV rk (l ++ m) q = sortV rk m (sortV rk l q)
  | [], m, q => rfl
  | y :: l, m, q => by rw [List.cons_append, sortV, sortV_app rk l, sortV]

/-- what Pop answers: the first element, or a zero one; whether there is one -/
def hdv (q : List Ent) : Int × Int := match q with | [] => (0, 0) | x :: _ => x.1
def nemp (q : List Ent) : Bool := match q with | [] => false | _ :: _ => true
theorem nemp_t {q : List Ent} (h : nemp q = true) : ∃ x r, q = x :: r := by
  cases q with
  | nil => cases h
  | cons x r => exact ⟨x, r, rfl⟩
theorem nemp_f {q : List Ent} (h : nemp q = false) : q = [] := by
  cases q with
  | nil => rfl
  | cons x r => cases h

/-- the numbers of rounds -/
theorem log_half {i : Nat} (h : 0 < i) : Nat.log2 (i + 1) = Nat.log2 ((i - 1) / 2 + 1) + 1 := by
  have e : (i - 1) / 2 + 1 = (i + 1) / 2 := by omega
  rw [e, Nat.log2_def (i + 1), if_pos (by omega)]
theorem log_mono {a b : Nat} (h : a ≤ b) (ha : a ≠ 0) : Nat.log2 a ≤ Nat.log2 b := (Nat.le_log2 (by omega)).2 (Nat.le_trans (Nat.log2_self_le ha) h)
theorem log_child {i c : Nat} (h : c = 2 * i + 1 ∨ c = 2 * i + 2) : Nat.log2 (i + 1) + 1 ≤ Nat.log2 (c + 1) := by
  have := log_half (i := c) (by omega)
  have e : (c - 1) / 2 = i := by omega
  rw [e] at this
  omega
theorem log_1000 {n : Nat} (h : n ≤ 1000) (h0 : n ≠ 0) : Nat.log2 n ≤ 9 := by
  have := (Nat.log2_lt (n := n) (k := 10) h0).2 (by omega)
  omega
end Go.Proofs.Ytogfcenebbipeaa.Pl
