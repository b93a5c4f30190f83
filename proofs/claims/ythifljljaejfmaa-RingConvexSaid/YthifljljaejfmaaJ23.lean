/-
  ring, plain: the vertices of a valid ring are distinct; a ring that begins with another vertex has the same canonical ring, and points lie at the same places; the opposite direction. No condition.
  ring, plain: a valid ring that turns left everywhere is convex, and no point halfway between two of its vertices lies outside. Conditions: as stated.
  ring, plain: no point halfway between two vertices of a convex ring lies outside. Conditions: as stated.
  ring: a list of vectors in memory, its elements by index; remainders by a length. No condition.
  ring: whether all points of a list are within the limits, of both sides. No condition.
-/
import Derived.Test.YthifljljaejfmaaJ22
import Derived.Test.YthifljljaejfmaaJ19
import Derived.Test.YthifljljaejfmaaJ13
import Derived.Test.YthifljljaejfmaaJ04
namespace Go.Proofs.Ythifljljaejfmaa.G
open Go.RowKit Go.Proofs.Ythifljljaejfmaa.V Go.Proofs.Ythifljljaejfmaa.W

theorem simple_of {l : List Pt} (hv : validR l = true) : Simple l := (simple_iff l).1 (by unfold validR at hv; simp only [Bool.and_eq_true] at hv; exact hv.2)
theorem next_ne {l : List Pt} (hv : validR l = true) {i : Nat} (hi : i < l.length) : at_ l i ≠ at_ l ((i + 1) % l.length) := by
  obtain ⟨h3, h40, hwl, ht, ha⟩ := valid_parts hv
  have h := no_spare ht
  obtain ⟨_, hb, _⟩ := need_is (l := l)
  have := hb i (by rw [h]; exact hi)
  unfold spare at this
  rw [Bool.or_eq_false_iff] at this
  intro e
  rw [e] at this
  simp at this
theorem distinct {l : List Pt} (hv : validR l = true) {i j : Nat} (hi : i < l.length) (hj : j < l.length) (h : at_ l i = at_ l j) : i = j := by
  obtain ⟨h3, h40, hwl, ht, ha⟩ := valid_parts hv
  have hn : 0 < l.length := by omega
  apply Classical.byContradiction
  intro hne
  have h1 : (i + 1) % l.length ≠ j := fun e => next_ne hv hi (by rw [h, e])
  have h2 : (j + 1) % l.length ≠ i := fun e => next_ne hv hj (by rw [← h, e])
  have hk : kindE (edgeP l i) (edgeP l j) = 0 := by
    rcases simple_of hv i j hi hj hne h1 h2 with c | c
    · exact kind_apart c (edge_valid hwl hi) (edge_valid hwl hj)
    · exact c
  have v1 := edge_valid hwl hi
  have v2 := edge_valid hwl hj
  have hl := (w_lm (allTo_iff.1 hwl i hi)).2
  have hc := common0 v1 v2 hl hk
  rw [← Bool.not_eq_true] at hc
  apply hc
  rw [both_iff v1 v2 hl]
  refine ⟨on_end_l, ?_⟩
  show On (at_ l j).1 (at_ l j).2 _ _ (at_ l i).1 (at_ l i).2
  rw [h]
  exact on_end_l
theorem rot_mem {l : List Pt} {k : Nat} {z : Pt} : z ∈ rotL l k ↔ z ∈ l := by
  unfold rotL
  rw [List.mem_append]
  constructor
  · rintro (h | h)
    · exact List.mem_of_mem_drop h
    · exact List.mem_of_mem_take h
  · intro h
    rw [← List.take_append_drop k l, List.mem_append] at h
    exact h.symm
theorem low_le {l : List Pt} {z : Pt} (h : z ∈ l) : ¬ ltV z (at_ l (low l)) := by
  obtain ⟨i, hi, rfl⟩ := List.mem_iff_getElem.1 h
  have := (lowTo_is (l := l) (k := l.length) i hi).1
  rw [show at_ l i = l[i] from at_of (List.getElem?_eq_getElem hi)] at this
  exact this
/-- two rings, each of which is a rotation of one valid ring to its least vertex, are the same -/
theorem rot_begin {l : List Pt} {k : Nat} (hk : k < l.length) (hv : validR l = true) : beginL (rotL l k) = beginL l := by
  have hkl := Nat.le_of_lt hk
  have hn : 0 < l.length := by omega
  have hq : low (rotL l k) < l.length := by
    have := lowTo_lt (l := rotL l k) (k := (rotL l k).length) (by rw [rot_len hkl]; exact hn)
    unfold low
    rw [rot_len hkl] at this ⊢
    exact this
  have hp : low l < l.length := lowTo_lt hn
  have e : at_ (rotL l k) (low (rotL l k)) = at_ l (low l) := by
    have m1 : at_ (rotL l k) (low (rotL l k)) ∈ l := rot_mem.1 (at_mem (by rw [rot_len hkl]; exact hq))
    have m2 : at_ l (low l) ∈ rotL l k := rot_mem.2 (at_mem hp)
    rcases ltV_tri (at_ (rotL l k) (low (rotL l k))) (at_ l (low l)) with c | c | c
    · exact absurd c (low_le m1)
    · exact c
    · exact absurd c (low_le m2)
  rw [rot_at hkl hq] at e
  have hi := distinct hv (Nat.mod_lt _ hn) hp e
  apply List.ext_getElem?
  intro i
  have l1 : (beginL (rotL l k)).length = l.length := by
    unfold beginL
    rw [rot_len (by rw [rot_len hkl]; exact Nat.le_of_lt hq), rot_len hkl]
  have l2 : (beginL l).length = l.length := rot_len (Nat.le_of_lt hp)
  rcases Nat.lt_or_ge i l.length with c | c
  · rw [at_some (by rw [l1]; exact c), at_some (by rw [l2]; exact c)]
    congr 1
    unfold beginL
    rw [rot_at (by rw [rot_len hkl]; exact Nat.le_of_lt hq) (by rw [rot_len hkl]; exact c), rot_len hkl, rot_at hkl (Nat.mod_lt _ hn), rot_at (Nat.le_of_lt hp) c, ← hi, Nat.mod_add_mod, Nat.add_mod_mod]
    congr 2
    omega
  · rw [List.getElem?_eq_none (by rw [l1]; exact c), List.getElem?_eq_none (by rw [l2]; exact c)]
theorem rot_where {l : List Pt} {k : Nat} (hk : k < l.length) (hv : validR l = true) (x y d : Int) : whereR (rotL l k) x y d = whereR l x y d := by
  have hkl := Nat.le_of_lt hk
  have h3 := (valid_parts hv).1
  have hany : anyOn (edgesP (rotL l k)) x y d = anyOn (edgesP l) x y d := by
    apply Bool.eq_iff_iff.2
    rw [any_iff (by rw [rot_len hkl]; omega), any_iff (by omega), rot_len hkl]
    constructor
    · rintro ⟨i, hi, h⟩
      rw [rot_edge hkl hi] at h
      exact ⟨_, Nat.mod_lt _ (by omega), h⟩
    · rintro ⟨j, hj, h⟩
      obtain ⟨a, b⟩ := rot_back hkl hj
      exact ⟨_, a, by rw [rot_edge hkl a, b]; exact h⟩
  have hcount : countP (edgesP (rotL l k)) x y d = countP (edgesP l) x y d := by
    have h1 := count_sum (l := rotL l k) (by rw [rot_len hkl]; omega) x y d
    have h2 := count_sum (l := l) (by omega) x y d
    rw [rot_len hkl, sum_ext (g := fun i => ind (crossesP (edgeP l ((i + k) % l.length)) x y d)) fun i hi => by rw [rot_edge hkl hi], sum_rot (fun i => ind (crossesP (edgeP l i) x y d))] at h1
    omega
  unfold whereR
  rw [rot_valid hkl hv, hv, hany, hcount]
end Go.Proofs.Ythifljljaejfmaa.G

namespace Go.Proofs.Ythifljljaejfmaa.G
open Go.RowKit Go.Proofs.Ythifljljaejfmaa.V Go.Proofs.Ythifljljaejfmaa.W

theorem no_meet {a b c d : Pt} (h1 : validE (a, b) = true) (h2 : validE (c, d) = true) (hk : kindE (a, b) (c, d) = 0) : NoMeet a b c d := by
  have h1' : validS a.1 a.2 b.1 b.2 = true := h1
  have h2' : validS c.1 c.2 d.1 d.2 = true := h2
  have hk' : kindS a.1 a.2 b.1 b.2 c.1 c.2 d.1 d.2 = 0 := hk
  obtain ⟨la, lb⟩ := valid_lm h1'
  obtain ⟨lc, ld⟩ := valid_lm h2'
  have no : ∀ {x y : Int}, Lm x y → On a.1 a.2 b.1 b.2 x y → On c.1 c.2 d.1 d.2 x y → False := fun {x y} hl o1 o2 => by
    have := common0 h1' h2' hl hk'
    rw [← Bool.not_eq_true] at this
    exact this ((both_iff h1' h2' hl).2 ⟨o1, o2⟩)
  refine ⟨fun e g => no la on_end_l ((on_btw lc la).2 ⟨e, g⟩), fun e g => no lb on_end_r ((on_btw lc lb).2 ⟨e, g⟩), fun e g => no lc ((on_btw la lc).2 ⟨e, g⟩) on_end_l,
    fun e g => no ld ((on_btw la ld).2 ⟨e, g⟩) on_end_r, fun ⟨p1, p2⟩ => ?_⟩
  rw [kind_is h1' h2'] at hk'
  split at hk'
  · rw [if_pos (by rw [Bool.and_eq_true, part_lm la lb lc ld, part_lm lc ld la lb]; exact ⟨p1, p2⟩)] at hk'
    omega
  · split at hk' <;> omega
theorem mod_ne {n a b : Nat} (h1 : a < b) (h2 : b < a + n) : a % n ≠ b % n := fun e => by
  have := Nat.sub_mod_eq_zero_of_mod_eq e.symm
  rw [Nat.mod_eq_of_lt (by omega)] at this
  omega
theorem lt_hgt {a b : Pt} (ha : Lm a.1 a.2) (hb : Lm b.1 b.2) : LtP a b ↔ hgt a < hgt b := (key_lt ha hb).symm

theorem valid_conv {l : List Pt} (hv : validR l = true) (hc : ∀ i, i < l.length → ¬ turnI l i < 0) : ConvP l := by
  obtain ⟨h3, h40, hw, ht, ha⟩ := valid_parts hv
  obtain ⟨n, hn⟩ : ∃ n, l.length = n := ⟨_, rfl⟩
  have lm : ∀ i, i < n → Lm (at_ l i).1 (at_ l i).2 := fun i hi => (w_lm (allTo_iff.1 hw i (by omega))).2
  have lt : ∀ i, i % n < n := fun i => Nat.mod_lt _ (by omega)
  have left : ∀ i, i < n → 0 < crsP (at_ l i) (at_ l ((i + 1) % n)) (at_ l ((i + 2) % n)) := fun i hi => by
    have h := hc ((i + 1) % n) (by rw [hn]; exact lt _)
    have g := allTo_iff.1 ht ((i + 1) % n) (by rw [hn]; exact lt _)
    have e : turnI l ((i + 1) % n) = sgn (crsP (at_ l i) (at_ l ((i + 1) % n)) (at_ l ((i + 2) % n))) := by
      unfold turnI turnP
      rw [hn, Nat.mod_add_mod, show i + 1 + 1 = i + 2 by omega, show (i + 1) % n + n - 1 = (i + 1) % n + (n - 1) by omega, Nat.mod_add_mod, show i + 1 + (n - 1) = i + n by omega, Nat.add_mod_right, Nat.mod_eq_of_lt hi]
      exact turn_lm (lm _ hi) (lm _ (lt _)) (lm _ (lt _))
    rw [e] at h g
    generalize crsP (at_ l i) (at_ l ((i + 1) % n)) (at_ l ((i + 2) % n)) = z at *
    rcases Int.lt_trichotomy z 0 with c | c | c
    · rw [sgn_negv c] at h; omega
    · rw [(sgn_zero_iff z).2 c] at g; simp at g
    · exact c
  have dst : ∀ i j, i < n → j < n → at_ l i = at_ l j → i = j := fun i j hi hj e => distinct hv (by omega) (by omega) e
  have noMeet : ∀ i j, i + 2 ≤ j → j + 2 ≤ i + n → NoMeet (at_ l (i % n)) (at_ l ((i + 1) % n)) (at_ l (j % n)) (at_ l ((j + 1) % n)) := fun i j h1 h2 => by
    have e : kindE (edgeP l (i % n)) (edgeP l (j % n)) = 0 := by
      rcases simple_of hv (i % n) (j % n) (by rw [hn]; exact lt _) (by rw [hn]; exact lt _) (mod_ne (by omega) (by omega)) (by rw [hn, Nat.mod_add_mod]; exact mod_ne (by omega) (by omega)) (by
        rw [hn, Nat.mod_add_mod]
        have := mod_ne (n := n) (a := j + 1) (b := i + n) (by omega) (by omega)
        rw [Nat.add_mod_right] at this
        exact this) with c | c
      · exact kind_apart c (edge_valid hw (by rw [hn]; exact lt _)) (edge_valid hw (by rw [hn]; exact lt _))
      · exact c
    have v1 := edge_valid hw (i := i % n) (by rw [hn]; exact lt _)
    have v2 := edge_valid hw (i := j % n) (by rw [hn]; exact lt _)
    have := no_meet (a := at_ l (i % n)) (b := at_ l ((i % n + 1) % l.length)) (c := at_ l (j % n)) (d := at_ l ((j % n + 1) % l.length)) v1 v2 e
    rw [hn, Nat.mod_add_mod, Nat.mod_add_mod] at this
    exact this
  have one : ∀ i j, i < j → j < n → lowP l i → lowP l j → False := fun i j hij hj li lj => by
    unfold lowP at li lj
    rw [hn] at li lj
    have m1 : ∀ k, k < n → k % n = k := fun k hk => Nat.mod_eq_of_lt hk
    refine one_min (f := fun k => at_ l (k % n)) (n := n) (p := i) (q := j) (by omega) (fun k => ?_) (fun k => ?_) (fun a b h1 h2 e => ?_) (fun a b h1 h2 => noMeet a b h1 h2) hij (by omega) ?_ ?_ ?_ ?_
    · show at_ l ((k + n) % n) = _
      rw [Nat.add_mod_right]
    · have := left (k % n) (lt k)
      rw [Nat.mod_add_mod, Nat.mod_add_mod] at this
      exact this
    · have := key_inj (lm _ (lt a)) (lm _ (lt b)) e
      exact mod_ne h1 h2 (dst _ _ (lt a) (lt b) (Prod.ext this.1 this.2))
    · show hgt (at_ l (i % n)) < hgt (at_ l ((i + n - 1) % n))
      rw [m1 i (by omega)]
      exact (lt_hgt (lm _ (by omega)) (lm _ (lt _))).1 li.1
    · show hgt (at_ l (i % n)) < hgt (at_ l ((i + 1) % n))
      rw [m1 i (by omega)]
      exact (lt_hgt (lm _ (by omega)) (lm _ (lt _))).1 li.2
    · show hgt (at_ l (j % n)) < hgt (at_ l ((j + n - 1) % n))
      rw [m1 j (by omega)]
      exact (lt_hgt (lm _ (by omega)) (lm _ (lt _))).1 lj.1
    · show hgt (at_ l (j % n)) < hgt (at_ l ((j + 1) % n))
      rw [m1 j (by omega)]
      exact (lt_hgt (lm _ (by omega)) (lm _ (lt _))).1 lj.2
  have hlow : low l < n := by rw [← hn]; exact lowTo_lt (by omega)
  have least : ∀ j, j < n → j ≠ low l → LtP (at_ l (low l)) (at_ l j) := fun j hj hne => by
    have h := low_le (at_mem (l := l) (i := j) (by omega))
    rcases lt_tri (at_ l (low l)) (at_ l j) with c | c | c
    · exact c
    · exact absurd (dst _ _ hlow hj c).symm hne
    · exact absurd ((ltV_iff _ _).2 c) h
  have l1 : lowP l (low l) := by
    unfold lowP
    rw [hn]
    refine ⟨least _ (lt _) fun e => ?_, least _ (lt _) fun e => ?_⟩
    · have := mod_ne (n := n) (a := low l) (b := low l + n - 1) (by omega) (by omega)
      rw [Nat.mod_eq_of_lt hlow] at this
      exact this e.symm
    · have := mod_ne (n := n) (a := low l) (b := low l + 1) (by omega) (by omega)
      rw [Nat.mod_eq_of_lt hlow] at this
      exact this e.symm
  refine one_low h3 (fun i hi => by rw [hn] at hi ⊢; exact left i hi) (m := low l) (by rw [hn]; exact hlow) l1 fun j hj lj => ?_
  rw [hn] at hj
  rcases Nat.lt_trichotomy j (low l) with c | c | c
  · exact (one j (low l) c hlow lj l1).elim
  · exact c
  · exact (one (low l) j c hj l1 lj).elim
end Go.Proofs.Ythifljljaejfmaa.G

namespace Go.Proofs.Ythifljljaejfmaa.G
open Go.RowKit Go.Proofs.Ythifljljaejfmaa.V Go.Proofs.Ythifljljaejfmaa.W

theorem sum_once {P : Nat → Bool} {j : Nat} (hj : P j = true) : ∀ k, (∀ i, i < k → P i = true → i = j) → sumTo (fun i => ind (P i)) k = if j < k then 1 else 0
  | 0, _ => rfl
  | k + 1, h => by
    have ih := sum_once hj k fun i hi => h i (by omega)
    show sumTo _ k + ind (P k) = _
    rw [ih]
    by_cases e : k = j
    · subst e
      rw [hj, if_neg (by omega), if_pos (by omega)]
      rfl
    · have : P k = false := by
        rw [← Bool.not_eq_true]
        exact fun c => e (h k (by omega) c)
      rw [this]
      show (if j < k then (1 : Int) else 0) + 0 = _
      split
      · rw [if_pos (by omega)]; rfl
      · rw [if_neg (by omega)]; rfl

theorem side_half (p q a b : Pt) {x y d : Int} (hx : 2 * x = d * (a.1 + b.1)) (hy : 2 * y = d * (a.2 + b.2)) : 2 * sideP (p, q) x y d = d * (crsP p q a + crsP p q b) := by
  unfold sideP crsP crs; grind
theorem both_up (p q r s : Pt) (y d : Int) : ((s.2 * d - y) * crsP p q r + (y - r.2 * d) * crsP p q s) + ((q.2 * d - y) * crsP r s p + (y - p.2 * d) * crsP r s q) = 0 := by
  unfold crsP crs; grind

/-- a point halfway between two vertices -/
theorem half_in {l : List Pt} (hc : ConvP l) {i k : Nat} (hi : i < l.length) (hk : k < l.length) {x y d : Int} (hd : 0 < d) (hx : 2 * x = d * ((at_ l i).1 + (at_ l k).1)) (hy : 2 * y = d * ((at_ l i).2 + (at_ l k).2)) :
    anyOn (edgesP l) x y d = true ∨ countP (edgesP l) x y d % 2 = 1 := by
  obtain ⟨h3, hcv⟩ := hc
  obtain ⟨n, hn⟩ : ∃ n, l.length = n := ⟨_, rfl⟩
  rw [hn] at h3 hcv hi hk
  have lt : ∀ i, i % n < n := fun i => Nat.mod_lt _ (by omega)
  have pos : ∀ i k, i < n → k < n → 0 ≤ crsP (at_ l i) (at_ l ((i + 1) % n)) (at_ l k) := fun i k hi hk => by
    by_cases e : k = i
    · subst e; unfold crsP crs; grind
    by_cases e' : k = (i + 1) % n
    · subst e'; unfold crsP crs; grind
    exact Int.le_of_lt (hcv i k hi hk e e')
  have zero : ∀ i k, i < n → k < n → crsP (at_ l i) (at_ l ((i + 1) % n)) (at_ l k) = 0 → k = i ∨ k = (i + 1) % n := fun i k hi hk e => by
    by_cases e1 : k = i
    · exact .inl e1
    by_cases e2 : k = (i + 1) % n
    · exact .inr e2
    have := hcv i k hi hk e1 e2
    omega
  have side : ∀ j, 2 * sideP (edgeP l j) x y d = d * (crsP (at_ l j) (at_ l ((j + 1) % n)) (at_ l i) + crsP (at_ l j) (at_ l ((j + 1) % n)) (at_ l k)) := fun j => by
    unfold edgeP
    rw [hn]
    exact side_half _ _ _ _ hx hy
  by_cases hz : ∃ j, j < n ∧ sideP (edgeP l j) x y d = 0
  · -- on the line of an edge: both vertices are its ends
    obtain ⟨j, hj, h0⟩ := hz
    left
    rw [any_iff (by omega), hn]
    refine ⟨j, hj, ?_⟩
    have s := side j
    rw [h0] at s
    have p1 := pos j i hj hi
    have p2 := pos j k hj hk
    have e : crsP (at_ l j) (at_ l ((j + 1) % n)) (at_ l i) + crsP (at_ l j) (at_ l ((j + 1) % n)) (at_ l k) = 0 := by
      rcases Int.mul_eq_zero.1 (show d * _ = 0 from by rw [← s]; rfl) with c | c
      · omega
      · exact c
    have z1 := zero j i hj hi (by omega)
    have z2 := zero j k hj hk (by omega)
    have box : ∀ {u v z : Int} {p q : Int}, 2 * z = d * (u + v) → (u = p ∨ u = q) → (v = p ∨ v = q) → min p q * d ≤ z ∧ z ≤ max p q * d := fun {u v z p q} ez hu hv => by
      have m1 : min p q ≤ u ∧ min p q ≤ v ∧ u ≤ max p q ∧ v ≤ max p q := by omega
      have b1 := Int.mul_nonneg (Int.le_of_lt hd) (show 0 ≤ u + v - 2 * min p q by omega)
      have b2 := Int.mul_nonneg (Int.le_of_lt hd) (show 0 ≤ 2 * max p q - (u + v) by omega)
      generalize min p q = m at *
      generalize max p q = M at *
      constructor <;> grind
    unfold onP
    rw [h0]
    simp only [Bool.and_eq_true, decide_eq_true_eq, beq_self_eq_true, and_true]
    have g1 : (at_ l i = (edgeP l j).1 ∨ at_ l i = (edgeP l j).2) ∧ (at_ l k = (edgeP l j).1 ∨ at_ l k = (edgeP l j).2) := by
      unfold edgeP
      rw [hn]
      exact ⟨z1.imp (fun e => by rw [e]) (fun e => by rw [e]), z2.imp (fun e => by rw [e]) (fun e => by rw [e])⟩
    obtain ⟨b1, b2⟩ := box (p := (edgeP l j).1.1) (q := (edgeP l j).2.1) hx (g1.1.imp (fun e => by rw [e]) (fun e => by rw [e])) (g1.2.imp (fun e => by rw [e]) (fun e => by rw [e]))
    obtain ⟨b3, b4⟩ := box (p := (edgeP l j).1.2) (q := (edgeP l j).2.2) hy (g1.1.imp (fun e => by rw [e]) (fun e => by rw [e])) (g1.2.imp (fun e => by rw [e]) (fun e => by rw [e]))
    exact ⟨⟨⟨b1, b2⟩, b3⟩, b4⟩
  · -- strictly to the left of every edge: one edge alone goes up past it
    right
    have sp : ∀ j, j < n → 0 < sideP (edgeP l j) x y d := fun j hj => by
      have s := side j
      have := Int.mul_nonneg (Int.le_of_lt hd) (show 0 ≤ crsP (at_ l j) (at_ l ((j + 1) % n)) (at_ l i) + crsP (at_ l j) (at_ l ((j + 1) % n)) (at_ l k) by have := pos j i hj hi; have := pos j k hj hk; omega)
      rw [← s] at this
      rcases Int.lt_or_le 0 (sideP (edgeP l j) x y d) with c | c
      · exact c
      · exact absurd ⟨j, hj, by omega⟩ hz
    have up : ∀ j, j < n → crossesP (edgeP l j) x y d = upP (edgeP l j) y d := fun j hj => by
      have := sp j hj
      unfold crossesP
      rw [decide_eq_true this, decide_eq_false (show ¬ sideP (edgeP l j) x y d < 0 by omega), Bool.and_true, Bool.and_false, Bool.or_false]
    have upI : ∀ j, upP (edgeP l j) y d = true ↔ (at_ l j).2 * d ≤ y ∧ y < (at_ l ((j + 1) % n)).2 * d := fun j => by
      unfold upP edgeP
      rw [hn, Bool.and_eq_true, decide_eq_true_eq, decide_eq_true_eq]
    have uniq : ∀ a b, a < n → b < n → upP (edgeP l a) y d = true → upP (edgeP l b) y d = true → a = b := fun a b ha hb ua ub => by
      rw [upI] at ua ub
      have id := both_up (at_ l a) (at_ l ((a + 1) % n)) (at_ l b) (at_ l ((b + 1) % n)) y d
      have c1 := Int.mul_nonneg (show 0 ≤ (at_ l ((b + 1) % n)).2 * d - y by omega) (pos a b ha hb)
      have c2 := Int.mul_nonneg (show 0 ≤ y - (at_ l b).2 * d by omega) (pos a ((b + 1) % n) ha (lt _))
      have c3 := Int.mul_nonneg (show 0 ≤ (at_ l ((a + 1) % n)).2 * d - y by omega) (pos b a hb ha)
      have c4 := Int.mul_nonneg (show 0 ≤ y - (at_ l a).2 * d by omega) (pos b ((a + 1) % n) hb (lt _))
      have e : crsP (at_ l a) (at_ l ((a + 1) % n)) (at_ l b) = 0 := by
        rcases Int.mul_eq_zero.1 (show ((at_ l ((b + 1) % n)).2 * d - y) * crsP (at_ l a) (at_ l ((a + 1) % n)) (at_ l b) = 0 by omega) with c | c
        · omega
        · exact c
      rcases zero a b ha hb e with c | c
      · exact c.symm
      · exfalso
        rw [← c] at ua
        omega
    have ex : ∃ j, j < n ∧ upP (edgeP l j) y d = true := by
      apply Classical.byContradiction
      intro hno
      have keep : ∀ j, j < n → (at_ l j).2 * d ≤ y → (at_ l ((j + 1) % n)).2 * d ≤ y := fun j hj h => by
        rcases Int.lt_or_le y ((at_ l ((j + 1) % n)).2 * d) with c | c
        · exact absurd ⟨j, hj, (upI j).2 ⟨h, c⟩⟩ hno
        · exact c
      have far : ∀ m j, j < n → (at_ l j).2 * d ≤ y → (at_ l ((j + m) % n)).2 * d ≤ y := by
        intro m
        induction m with
        | zero => intro j hj h; rw [Nat.add_zero, Nat.mod_eq_of_lt hj]; exact h
        | succ m ih =>
          intro j hj h
          have := keep _ (lt _) (ih j hj h)
          rw [Nat.mod_add_mod] at this
          exact this
      have some : (at_ l i).2 * d ≤ y ∨ (at_ l k).2 * d ≤ y := by
        have : d * ((at_ l i).2 + (at_ l k).2) = (at_ l i).2 * d + (at_ l k).2 * d := by grind
        omega
      have all : ∀ j, j < n → (at_ l j).2 * d ≤ y := fun j hj => by
        rcases some with c | c
        · have := far (j + n - i) i hi c
          rw [show i + (j + n - i) = j + n by omega, Nat.add_mod_right, Nat.mod_eq_of_lt hj] at this
          exact this
        · have := far (j + n - k) k hk c
          rw [show k + (j + n - k) = j + n by omega, Nat.add_mod_right, Nat.mod_eq_of_lt hj] at this
          exact this
      have ai := all i hi
      have ak := all k hk
      have ey : d * ((at_ l i).2 + (at_ l k).2) = (at_ l i).2 * d + (at_ l k).2 * d := by grind
      have e1 : (at_ l i).2 * d = y := by omega
      have e2 : (at_ l k).2 * d = y := by omega
      have top : (at_ l i).2 = (at_ l k).2 := Int.eq_of_mul_eq_mul_right (by omega) (e1.trans e2.symm)
      have below : ∀ j, j < n → (at_ l j).2 ≤ (at_ l i).2 := fun j hj => by
        have := all j hj
        rw [← e1] at this
        exact Int.le_of_mul_le_mul_right this hd
      have s1 : 0 < crsP (at_ l i) (at_ l ((i + 1) % n)) (at_ l k) := by
        have s := side i
        have p := sp i hi
        have z : crsP (at_ l i) (at_ l ((i + 1) % n)) (at_ l i) = 0 := by unfold crsP crs; grind
        rw [z, Int.zero_add] at s
        rcases Int.lt_or_le 0 (crsP (at_ l i) (at_ l ((i + 1) % n)) (at_ l k)) with c | c
        · exact c
        · have := Int.mul_nonneg (Int.le_of_lt hd) (show 0 ≤ -crsP (at_ l i) (at_ l ((i + 1) % n)) (at_ l k) by omega)
          rw [Int.mul_neg] at this
          omega
      have s2 : 0 < crsP (at_ l k) (at_ l ((k + 1) % n)) (at_ l i) := by
        have s := side k
        have p := sp k hk
        have z : crsP (at_ l k) (at_ l ((k + 1) % n)) (at_ l k) = 0 := by unfold crsP crs; grind
        rw [z, Int.add_zero] at s
        rcases Int.lt_or_le 0 (crsP (at_ l k) (at_ l ((k + 1) % n)) (at_ l i)) with c | c
        · exact c
        · have := Int.mul_nonneg (Int.le_of_lt hd) (show 0 ≤ -crsP (at_ l k) (at_ l ((k + 1) % n)) (at_ l i) by omega)
          rw [Int.mul_neg] at this
          omega
      have w1 := below _ (lt (i + 1))
      have w2 := below _ (lt (k + 1))
      have f1 : crsP (at_ l i) (at_ l ((i + 1) % n)) (at_ l k) = ((at_ l i).2 - (at_ l ((i + 1) % n)).2) * ((at_ l k).1 - (at_ l i).1) := by unfold crsP crs; rw [← top]; grind
      have f2 : crsP (at_ l k) (at_ l ((k + 1) % n)) (at_ l i) = ((at_ l i).2 - (at_ l ((k + 1) % n)).2) * ((at_ l i).1 - (at_ l k).1) := by unfold crsP crs; rw [← top]; grind
      rw [f1] at s1
      rw [f2] at s2
      rcases Int.le_total (at_ l k).1 (at_ l i).1 with c | c
      · have := Int.mul_nonneg (show 0 ≤ (at_ l i).2 - (at_ l ((i + 1) % n)).2 by omega) (show 0 ≤ -((at_ l k).1 - (at_ l i).1) by omega)
        rw [Int.mul_neg] at this
        omega
      · have := Int.mul_nonneg (show 0 ≤ (at_ l i).2 - (at_ l ((k + 1) % n)).2 by omega) (show 0 ≤ -((at_ l i).1 - (at_ l k).1) by omega)
        rw [Int.mul_neg] at this
        omega
    obtain ⟨j, hj, uj⟩ := ex
    have cs := count_sum (l := l) (by omega) x y d
    rw [hn, sum_once (P := fun i => crossesP (edgeP l i) x y d) (j := j) (by rw [up j hj]; exact uj) n (fun a ha h => by rw [up a ha] at h; exact uniq a j ha hj h uj), if_pos hj] at cs
    omega
end Go.Proofs.Ythifljljaejfmaa.G

namespace Go.Proofs.Ythifljljaejfmaa.W
open Go.RowKit Go.Proofs.Ythifljljaejfmaa.V Go.Proofs.Ythifljljaejfmaa.G

abbrev SrcN (w : World) (A : Option Addr) (n c : Nat) (l : List (Int × Int)) : Prop := Src w 2 (.slice A n c) n (l.flatMap vC)
theorem src_n {w : World} {A : Option Addr} {n c : Nat} {l : List (Int × Int)} (h : SrcV w (.slice A l.length c) l) (hn : l.length = n) : SrcN w A n c l := by subst hn; exact h
theorem src_v {w : World} {A : Option Addr} {n c : Nat} {l : List (Int × Int)} (h : SrcN w A n c l) (hn : l.length = n) : SrcV w (.slice A n c) l := by subst hn; exact h
theorem src_max {w : World} {A : Option Addr} {n c : Nat} {l : List (Int × Int)} (h : SrcN w A n c l) : n ≤ c ∧ c ≤ 9223372036854775807 ∧ c ≤ maxLen := by
  obtain ⟨_, A', c', e, h1, h2, _⟩ := h
  injection e with _ _ e3
  subst e3
  exact ⟨h1, by unfold maxLen at h2; omega, h2⟩
theorem src_len {w : World} {A : Option Addr} {n c : Nat} {l : List (Int × Int)} (h : SrcN w A n c l) : l.length = n := by
  have := h.1
  rw [flatV_len] at this
  omega
/-- where a list's elements lie, in all later worlds -/
theorem src_at {w : World} {A : Option Addr} {n c : Nat} {l : List (Int × Int)} (h : SrcN w A n c l) (hn : 0 < n) :
    ∃ g o, A = some ⟨g, o, none⟩ ∧ g < w.heap.size ∧ ∀ w', Nw w w' → ∀ k, k < n → w'.cell? ⟨g, o + k * 2, none⟩ = some (.int .i64 (at_ l k).1) ∧ w'.cell? ⟨g, o + k * 2 + 1, none⟩ = some (.int .i64 (at_ l k).2) := by
  have hl := src_len h
  obtain ⟨_, A', c', e, _, _, hc⟩ := h
  injection e with e1 e2 e3
  subst e1
  obtain ⟨g, o, rfl, hg, hc⟩ := hc (by omega)
  refine ⟨g, o, rfl, hg, fun w' hk k hkn => ?_⟩
  obtain ⟨f1, f2⟩ := flatV_at l k _ (at_some (by omega))
  exact ⟨(hk.cell (p := ⟨g, o + k * 2, none⟩) hg id).trans (hc _ _ f1), (hk.cell (p := ⟨g, o + (k * 2 + 1), none⟩) hg id).trans (hc _ _ f2)⟩
theorem wrapI (n : Int) : IntKind.i64.wrap n = w64 n := by
  rw [IntKind.wrap_i64, w64_eq]
theorem tmod_nat (a b : Nat) : Int.tmod (a : Int) (b : Int) = ((a % b : Nat) : Int) := by
  rw [Int.tmod_eq_emod_of_nonneg (by omega)]
  omega
end Go.Proofs.Ythifljljaejfmaa.W

namespace Go.Proofs.Ythifljljaejfmaa.W
open Go.RowKit Go.Proofs.Ythifljljaejfmaa.V Go.Proofs.Ythifljljaejfmaa.G


set_option maxRecDepth 100000 in
set_option maxHeartbeats 3200000 in
theorem isWithinL_any (l : List (Int × Int)) (v : Value) (w : World) (hv : SrcV w v l) : Calls Try.prog 16 #[v] w fun e w' => e = .returned (.bool (allW l)) ∧ Nw w w' := by
  obtain ⟨A, c, rfl⟩ := hv.shape
  obtain ⟨n, hn⟩ : ∃ n, l.length = n := ⟨_, rfl⟩
  replace hv := src_n hv hn
  rw [hn]
  have HV := Lib.hid hv
  have HN := Lib.hid hn
  have hmx := src_max hv
  clear hv hn
  go_enter Try.func16, Try.ntmps16
  go_wp2_with fail
  go_loopw [7] (fun i wr => ∃ k : Nat, i = .int .i64 k ∧ k ≤ n ∧ (∀ j, j < k → wOk (at_ l j) = true) ∧ Nw w wr) (fun i _ => n - (intOf i).toNat)
  case atStart => exact ⟨0, rfl, Nat.zero_le _, fun j h => absurd h (Nat.not_lt_zero _), by repeat (first | exact Kp.refl _ _ | refine Kp.drew ?_)⟩
  case round =>
    obtain ⟨k, rfl, hk, hall, hnw⟩ := hrel
    have HA := Lib.hid hall
    have HK := Lib.hid hnw
    clear hall hnw
    by_cases hkn : k < n
    · have i0 : (0 : Int) ≤ (k : Int) := by omega
      have i1 : (k : Int) < (n : Int) := by omega
      have e3 : IntKind.i64.wrap ((k : Int) + 1) = ((k + 1 : Nat) : Int) := by rw [IntKind.wrap_i64]; omega
      obtain ⟨g, o, rfl, hg, hc⟩ := src_at HV.out (by omega)
      obtain ⟨q0, q1⟩ := hc wr HK.out k hkn
      obtain ⟨⟨px, py⟩, hp⟩ : ∃ p, at_ l k = p := ⟨_, rfl⟩
      rw [hp] at q0 q1
      have HP := Lib.hid hp
      have cw := fun w1 => within_any px py 2000 w1
      obtain ⟨b, hb⟩ : ∃ b, withinV px py 2000 = b := ⟨_, rfl⟩
      rw [hb] at cw
      have HB := Lib.hid hb
      clear hp hb hc hg
      cases b
      · go_wp2_with (first | (go_at_call 38; ((with_reducible refine (cw _).mono ?_); rintro e w5 ⟨rfl, hk5⟩)))
        go_ret
        refine ⟨by show Ending.returned (.bool false) = _; rw [show allW l = false from allTo_not (i := k) (by rw [HN.out]; exact hkn) (by rw [HP.out]; exact HB.out)], ?_⟩
        exact (by repeat (first | exact HK.out | refine Kp.alloc ?_ _ | refine Kp.drew ?_) : Nw w _).tr hk5
      · go_wp2_with (first | (go_at_call 38; ((with_reducible refine (cw _).mono ?_); rintro e w5 ⟨rfl, hk5⟩)))
        go_roundw
        case rel =>
          refine ⟨k + 1, rfl, by omega, fun j hj => ?_, (by repeat (first | exact HK.out | refine Kp.alloc ?_ _ | refine Kp.drew ?_) : Nw w _).tr hk5⟩
          rcases Nat.lt_or_ge j k with h | h
          · exact HA.out j h
          · obtain rfl : j = k := by omega
            rw [HP.out]
            exact HB.out
        case measure => (simp [intOf]; try omega)
    · obtain rfl : k = n := by omega
      have i5 : ¬ ((k : Int) < (k : Int)) := by omega
      go_wp2_with fail
      go_ret
      exact ⟨by show Ending.returned (.bool true) = _; rw [show allW l = true from allTo_iff.2 fun i hi => HA.out i (by rw [HN.out] at hi; exact hi)], HK.out⟩

end Go.Proofs.Ythifljljaejfmaa.W
