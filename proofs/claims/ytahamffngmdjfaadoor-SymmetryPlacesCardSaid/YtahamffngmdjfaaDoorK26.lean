/-
  ring, plain: around a ring a height is crossed an even number of times; a point beyond the limits is not inside; a moved ring has the same area, turns and places. Conditions: those of each sentence.
  ring, plain: the vertices of a valid ring are distinct; a ring that begins with another vertex has the same canonical ring, and points lie at the same places; the opposite direction. No condition.
  ring, plain: a reversed valid ring is not valid, and is cleaned to the ring; so is a ring whose last vertex is repeated. No condition.
  symmetry, plain: mapped rings: a symmetry keeps what is valid, the area, which vertices turn right. No condition but those that stand.
  symmetry: Ring: what it returns. Conditions: the table of the quarter turns; the list is not longer than 2^40.
  symmetry: the reference's Ring: it returns what the program's does. Condition: the list is not longer than 2^40.
-/
import Derived.Test.YtahamffngmdjfaaDoorK25
import Derived.Test.YtahamffngmdjfaaDoorK01
import Derived.Test.YtahamffngmdjfaaDoorK09
import Derived.Test.YtahamffngmdjfaaDoorK05
import Derived.Test.YtahamffngmdjfaaDoorK21
import Derived.Test.YtahamffngmdjfaaDoorK06
namespace Go.Proofs.YtahamffngmdjfaaDoor.G
open Go.RowKit Go.Proofs.YtahamffngmdjfaaDoor.V Go.Proofs.YtahamffngmdjfaaDoor.W

theorem sum_add (f g : Nat → Int) : ∀ k, sumTo (fun i => f i + g i) k = sumTo f k + sumTo g k
  | 0 => rfl
  | k + 1 => by
    show sumTo (fun i => f i + g i) k + (f k + g k) = sumTo f k + f k + (sumTo g k + g k)
    rw [sum_add f g k]
    omega
theorem sum_mul (c : Int) (f : Nat → Int) : ∀ k, sumTo (fun i => c * f i) k = c * sumTo f k
  | 0 => (Int.mul_zero c).symm
  | k + 1 => by
    show sumTo (fun i => c * f i) k + c * f k = c * (sumTo f k + f k)
    rw [sum_mul c f k, Int.mul_add]
theorem sum_even (f g : Nat → Int) (h : ∀ i, ∃ c, f i = g i + 2 * c) : ∀ k, ∃ c, sumTo f k = sumTo g k + 2 * c
  | 0 => ⟨0, rfl⟩
  | k + 1 => by
    obtain ⟨a, ha⟩ := sum_even f g h k
    obtain ⟨b, hb⟩ := h k
    refine ⟨a + b, ?_⟩
    show sumTo f k + f k = sumTo g k + g k + 2 * (a + b)
    rw [ha, hb]
    omega
/-- 1 where it holds -/
def ind (b : Bool) : Int := if b then 1 else 0
theorem filter_sum (p : Nat → Bool) : ∀ n, (((List.range n).filter p).length : Int) = sumTo (fun i => ind (p i)) n
  | 0 => rfl
  | n + 1 => by
    rw [List.range_succ, List.filter_append, List.length_append]
    show _ = sumTo (fun i => ind (p i)) n + ind (p n)
    rw [← filter_sum p n]
    cases h : p n <;> simp [ind, h]
/-- around a ring, a mark changes an even number of times -/
theorem around_even (F : Nat → Bool) (n : Nat) : ∃ c, sumTo (fun i => ind (F i != F ((i + 1) % n))) n = 2 * c := by
  obtain ⟨c, hc⟩ := sum_even (fun i => ind (F i != F ((i + 1) % n))) (fun i => ind (F ((i + 1) % n)) + -1 * ind (F i)) (fun i => by
    cases F i <;> cases F ((i + 1) % n) <;> simp [ind]
    · exact ⟨0, rfl⟩
    · exact ⟨0, rfl⟩
    · exact ⟨1, rfl⟩
    · exact ⟨0, rfl⟩) n
  rw [sum_add, sum_mul, sum_one (fun i => ind (F i))] at hc
  exact ⟨c, by rw [hc]; omega⟩
theorem count_sum {l : List Pt} (h2 : ¬ l.length < 2) (x y d : Int) : (countP (edgesP l) x y d : Int) = sumTo (fun i => ind (crossesP (edgeP l i) x y d)) l.length := by
  unfold countP edgesP
  rw [if_neg h2, List.filter_map, List.length_map]
  exact filter_sum _ _
theorem any_iff {l : List Pt} (h2 : ¬ l.length < 2) (x y d : Int) : anyOn (edgesP l) x y d = true ↔ ∃ i, i < l.length ∧ onP (edgeP l i) x y d = true := by
  unfold anyOn edgesP
  rw [if_neg h2, List.any_eq_true]
  constructor
  · rintro ⟨e, he, h⟩
    obtain ⟨i, hi, rfl⟩ := List.mem_map.1 he
    exact ⟨i, List.mem_range.1 hi, h⟩
  · rintro ⟨i, hi, h⟩
    exact ⟨_, List.mem_map.2 ⟨i, List.mem_range.2 hi, rfl⟩, h⟩

theorem side_out {a b : Pt} {X Y : Int} (ha : a.1 < X) (hb : b.1 < X) (h : a.2 ≤ Y ∧ Y < b.2) : sideP (a, b) X Y 1 < 0 := by
  unfold sideP
  simp only [Int.mul_one]
  have h1 : (b.2 - a.2) * (X - a.1) > 0 := Int.mul_pos (by omega) (by omega)
  rcases Int.le_total b.1 a.1 with c | c
  · have := Int.mul_nonpos_of_nonpos_of_nonneg (show b.1 - a.1 ≤ 0 by omega) (show 0 ≤ Y - a.2 by omega)
    omega
  · have e1 : (b.1 - a.1) * (Y - a.2) ≤ (b.1 - a.1) * (b.2 - a.2) := Int.mul_le_mul_of_nonneg_left (by omega) (by omega)
    have e2 : (b.2 - a.2) * (b.1 - a.1) < (b.2 - a.2) * (X - a.1) := Int.mul_lt_mul_of_pos_left (by omega) (by omega)
    rw [Int.mul_comm (b.2 - a.2) (b.1 - a.1)] at e2
    omega
theorem side_in {a b : Pt} {X Y : Int} (ha : X < a.1) (hb : X < b.1) (h : a.2 ≤ Y ∧ Y < b.2) : 0 < sideP (a, b) X Y 1 := by
  have := side_out (a := (-a.1, a.2)) (b := (-b.1, b.2)) (X := -X) (Y := Y) (by simp; omega) (by simp; omega) h
  unfold sideP at this ⊢
  simp only [Int.mul_one] at this ⊢
  have e : (-b.1 - -a.1) * (Y - a.2) - (b.2 - a.2) * (-X - -a.1) = -((b.1 - a.1) * (Y - a.2) - (b.2 - a.2) * (X - a.1)) := by grind
  omega
/-- a point beyond the limits of a list lies on no edge, and the count is even -/
theorem beyond {l : List Pt} (h3 : 3 ≤ l.length) (hw : allW l = true) {X Y : Int} (h : X < -2000 ∨ 2000 < X ∨ Y < -2000 ∨ 2000 < Y) : anyOn (edgesP l) X Y 1 = false ∧ countP (edgesP l) X Y 1 % 2 = 0 := by
  have hb : ∀ i, i < l.length → (-2000 ≤ (at_ l i).1 ∧ (at_ l i).1 ≤ 2000 ∧ -2000 ≤ (at_ l i).2 ∧ (at_ l i).2 ≤ 2000) := fun i hi => (w_lm (allTo_iff.1 hw i hi)).1
  have hn : 0 < l.length := by omega
  constructor
  · rw [← Bool.not_eq_true, any_iff (by omega)]
    rintro ⟨i, hi, ho⟩
    have a := hb i hi
    have b := hb ((i + 1) % l.length) (Nat.mod_lt _ hn)
    unfold onP edgeP at ho
    simp only [Bool.and_eq_true, decide_eq_true_eq, Int.mul_one] at ho
    omega
  · have hs := count_sum (l := l) (by omega) X Y 1
    have hz : ∀ (c : Int), sumTo (fun i => ind (crossesP (edgeP l i) X Y 1)) l.length = 2 * c → countP (edgesP l) X Y 1 % 2 = 0 := fun c hc => by
      rw [hc] at hs
      omega
    have hno : (∀ i, i < l.length → crossesP (edgeP l i) X Y 1 = false) → countP (edgesP l) X Y 1 % 2 = 0 := fun hc => hz 0 (by
      rw [sum_ext (g := fun _ => 0) fun i hi => by rw [hc i hi]; rfl]
      have := sum_mul 0 (fun _ => 0) l.length
      simpa using this)
    by_cases hx : X < -2000
    · obtain ⟨c, hc⟩ := around_even (fun i => decide ((at_ l i).2 ≤ Y)) l.length
      refine hz c ?_
      rw [← hc]
      refine sum_ext fun i hi => ?_
      have a := hb i hi
      have b := hb ((i + 1) % l.length) (Nat.mod_lt _ hn)
      congr 1
      unfold crossesP upP downP edgeP
      simp only [Int.mul_one]
      generalize at_ l i = p at *
      generalize at_ l ((i + 1) % l.length) = q at *
      by_cases c1 : p.2 ≤ Y <;> by_cases c2 : q.2 ≤ Y
      · have n1 : ¬ Y < p.2 := by omega
        have n2 : ¬ Y < q.2 := by omega
        simp [c1, c2, n1, n2]
      · have n1 : ¬ Y < p.2 := by omega
        have n2 : Y < q.2 := by omega
        have := side_in (a := p) (b := q) (X := X) (Y := Y) (by omega) (by omega) ⟨c1, n2⟩
        simp [c1, c2, n1, n2, this]
      · have n1 : Y < p.2 := by omega
        have n2 : ¬ Y < q.2 := by omega
        have := side_in (a := q) (b := p) (X := X) (Y := Y) (by omega) (by omega) ⟨c2, n1⟩
        rw [show (q, p) = ((q, p) : Ed) from rfl, side_turn] at this
        simp [c1, c2, n1, n2]
        omega
      · have n1 : Y < p.2 := by omega
        have n2 : Y < q.2 := by omega
        simp [c1, c2, n1, n2]
    · refine hno fun i hi => ?_
      have a := hb i hi
      have b := hb ((i + 1) % l.length) (Nat.mod_lt _ hn)
      rw [Bool.eq_false_iff]
      intro hc
      unfold crossesP upP downP edgeP at hc
      simp only [Int.mul_one, Bool.or_eq_true, Bool.and_eq_true, decide_eq_true_eq] at hc
      generalize at_ l i = p at *
      generalize at_ l ((i + 1) % l.length) = q at *
      rcases hc with ⟨⟨c1, c2⟩, c3⟩ | ⟨⟨c1, c2⟩, c3⟩
      · have := side_out (a := p) (b := q) (X := X) (Y := Y) (by omega) (by omega) ⟨c1, c2⟩
        omega
      · have := side_out (a := q) (b := p) (X := X) (Y := Y) (by omega) (by omega) ⟨c1, c2⟩
        rw [side_turn] at this
        omega
end Go.Proofs.YtahamffngmdjfaaDoor.G

namespace Go.Proofs.YtahamffngmdjfaaDoor.G
open Go.RowKit Go.Proofs.YtahamffngmdjfaaDoor.V Go.Proofs.YtahamffngmdjfaaDoor.W

theorem simple_of {l : List Pt} (hv : validR l = true) : Simple l := (simple_iff l).1 (by unfold validR at hv; simp only [Bool.and_eq_true] at hv; exact hv.2)
theorem next_ne {l : List Pt} (hv : validR l = true) {i : Nat} (hi : i < l.length) : at_ l i ≠ at_ l ((i + 1) % l.length) := by
  obtain ⟨h3, h40, hwl, ht, ha⟩ := valid_parts hv
  have h := no_spare ht
  obtain ⟨_, hb, _⟩ := need_is (l := l)
  have := hb i (by rw [h]; exact hi)
  unfold spare at this
  rw [Bool.or_eq_false_iff] at this
  intro e
  rw [e] at this
  simp at this
theorem distinct {l : List Pt} (hv : validR l = true) {i j : Nat} (hi : i < l.length) (hj : j < l.length) (h : at_ l i = at_ l j) : i = j := by
  obtain ⟨h3, h40, hwl, ht, ha⟩ := valid_parts hv
  have hn : 0 < l.length := by omega
  apply Classical.byContradiction
  intro hne
  have h1 : (i + 1) % l.length ≠ j := fun e => next_ne hv hi (by rw [h, e])
  have h2 : (j + 1) % l.length ≠ i := fun e => next_ne hv hj (by rw [← h, e])
  have hk : kindE (edgeP l i) (edgeP l j) = 0 := by
    rcases simple_of hv i j hi hj hne h1 h2 with c | c
    · exact kind_apart c (edge_valid hwl hi) (edge_valid hwl hj)
    · exact c
  have v1 := edge_valid hwl hi
  have v2 := edge_valid hwl hj
  have hl := (w_lm (allTo_iff.1 hwl i hi)).2
  have hc := common0 v1 v2 hl hk
  rw [← Bool.not_eq_true] at hc
  apply hc
  rw [both_iff v1 v2 hl]
  refine ⟨on_end_l, ?_⟩
  show On (at_ l j).1 (at_ l j).2 _ _ (at_ l i).1 (at_ l i).2
  rw [h]
  exact on_end_l
theorem rot_mem {l : List Pt} {k : Nat} {z : Pt} : z ∈ rotL l k ↔ z ∈ l := by
  unfold rotL
  rw [List.mem_append]
  constructor
  · rintro (h | h)
    · exact List.mem_of_mem_drop h
    · exact List.mem_of_mem_take h
  · intro h
    rw [← List.take_append_drop k l, List.mem_append] at h
    exact h.symm
theorem low_le {l : List Pt} {z : Pt} (h : z ∈ l) : ¬ ltV z (at_ l (low l)) := by
  obtain ⟨i, hi, rfl⟩ := List.mem_iff_getElem.1 h
  have := (lowTo_is (l := l) (k := l.length) i hi).1
  rw [show at_ l i = l[i] from at_of (List.getElem?_eq_getElem hi)] at this
  exact this
/-- two rings, each of which is a rotation of one valid ring to its least vertex, are the same -/
theorem rot_begin {l : List Pt} {k : Nat} (hk : k < l.length) (hv : validR l = true) : beginL (rotL l k) = beginL l := by
  have hkl := Nat.le_of_lt hk
  have hn : 0 < l.length := by omega
  have hq : low (rotL l k) < l.length := by
    have := lowTo_lt (l := rotL l k) (k := (rotL l k).length) (by rw [rot_len hkl]; exact hn)
    unfold low
    rw [rot_len hkl] at this ⊢
    exact this
  have hp : low l < l.length := lowTo_lt hn
  have e : at_ (rotL l k) (low (rotL l k)) = at_ l (low l) := by
    have m1 : at_ (rotL l k) (low (rotL l k)) ∈ l := rot_mem.1 (at_mem (by rw [rot_len hkl]; exact hq))
    have m2 : at_ l (low l) ∈ rotL l k := rot_mem.2 (at_mem hp)
    rcases ltV_tri (at_ (rotL l k) (low (rotL l k))) (at_ l (low l)) with c | c | c
    · exact absurd c (low_le m1)
    · exact c
    · exact absurd c (low_le m2)
  rw [rot_at hkl hq] at e
  have hi := distinct hv (Nat.mod_lt _ hn) hp e
  apply List.ext_getElem?
  intro i
  have l1 : (beginL (rotL l k)).length = l.length := by
    unfold beginL
    rw [rot_len (by rw [rot_len hkl]; exact Nat.le_of_lt hq), rot_len hkl]
  have l2 : (beginL l).length = l.length := rot_len (Nat.le_of_lt hp)
  rcases Nat.lt_or_ge i l.length with c | c
  · rw [at_some (by rw [l1]; exact c), at_some (by rw [l2]; exact c)]
    congr 1
    unfold beginL
    rw [rot_at (by rw [rot_len hkl]; exact Nat.le_of_lt hq) (by rw [rot_len hkl]; exact c), rot_len hkl, rot_at hkl (Nat.mod_lt _ hn), rot_at (Nat.le_of_lt hp) c, ← hi, Nat.mod_add_mod, Nat.add_mod_mod]
    congr 2
    omega
  · rw [List.getElem?_eq_none (by rw [l1]; exact c), List.getElem?_eq_none (by rw [l2]; exact c)]
theorem rot_where {l : List Pt} {k : Nat} (hk : k < l.length) (hv : validR l = true) (x y d : Int) : whereR (rotL l k) x y d = whereR l x y d := by
  have hkl := Nat.le_of_lt hk
  have h3 := (valid_parts hv).1
  have hany : anyOn (edgesP (rotL l k)) x y d = anyOn (edgesP l) x y d := by
    apply Bool.eq_iff_iff.2
    rw [any_iff (by rw [rot_len hkl]; omega), any_iff (by omega), rot_len hkl]
    constructor
    · rintro ⟨i, hi, h⟩
      rw [rot_edge hkl hi] at h
      exact ⟨_, Nat.mod_lt _ (by omega), h⟩
    · rintro ⟨j, hj, h⟩
      obtain ⟨a, b⟩ := rot_back hkl hj
      exact ⟨_, a, by rw [rot_edge hkl a, b]; exact h⟩
  have hcount : countP (edgesP (rotL l k)) x y d = countP (edgesP l) x y d := by
    have h1 := count_sum (l := rotL l k) (by rw [rot_len hkl]; omega) x y d
    have h2 := count_sum (l := l) (by omega) x y d
    rw [rot_len hkl, sum_ext (g := fun i => ind (crossesP (edgeP l ((i + k) % l.length)) x y d)) fun i hi => by rw [rot_edge hkl hi], sum_rot (fun i => ind (crossesP (edgeP l i) x y d))] at h1
    omega
  unfold whereR
  rw [rot_valid hkl hv, hv, hany, hcount]
end Go.Proofs.YtahamffngmdjfaaDoor.G

namespace Go.Proofs.YtahamffngmdjfaaDoor.G
open Go.RowKit Go.Proofs.YtahamffngmdjfaaDoor.V Go.Proofs.YtahamffngmdjfaaDoor.W

theorem rev_at {l : List Pt} {i : Nat} (hi : i < l.length) : at_ l.reverse i = at_ l (l.length - 1 - i) := by
  apply at_of
  rw [List.getElem?_reverse hi]
  exact at_some (by omega)
theorem rev_next {n i : Nat} (hi : i < n) : n - 1 - (i + 1) % n = (n - 1 - i + n - 1) % n := by
  rcases Nat.lt_or_ge (i + 1) n with h | h
  · rw [Nat.mod_eq_of_lt h, show n - 1 - i + n - 1 = (n - 1 - (i + 1)) + n by omega, Nat.add_mod_right, Nat.mod_eq_of_lt (by omega)]
  · rw [show i + 1 = n by omega, Nat.mod_self, show n - 1 - i + n - 1 = n - 1 by omega, Nat.mod_eq_of_lt (by omega)]
    omega
theorem rev_prev {n i : Nat} (hi : i < n) : n - 1 - (i + n - 1) % n = (n - 1 - i + 1) % n := by
  rcases Nat.eq_zero_or_pos i with h | h
  · subst h
    rw [Nat.zero_add, Nat.mod_eq_of_lt (by omega), show n - 1 - 0 + 1 = n by omega, Nat.mod_self]
    omega
  · rw [show i + n - 1 = (i - 1) + n by omega, Nat.add_mod_right, Nat.mod_eq_of_lt (by omega), Nat.mod_eq_of_lt (by omega)]
    omega
theorem turn_rev {a b c : Pt} (ha : Lm a.1 a.2) (hb : Lm b.1 b.2) (hc : Lm c.1 c.2) : turnP c b a = 0 ↔ turnP a b c = 0 := by
  unfold turnP
  rw [turn_lm hc hb ha, turn_lm ha hb hc, sgn_zero_iff, sgn_zero_iff]
  have : crs c.1 c.2 b.1 b.2 a.1 a.2 = -crs a.1 a.2 b.1 b.2 c.1 c.2 := by unfold crs; grind
  rw [this]
  omega
theorem rev_turns {l : List Pt} (hw : allW l = true) (h : turnsP l = true) : turnsP l.reverse = true := by
  refine allTo_iff.2 fun i hi => ?_
  rw [List.length_reverse] at hi
  have hn : 0 < l.length := by omega
  have hm := fun (a b : Nat) => Nat.mod_lt a hn
  have ht := allTo_iff.1 h (l.length - 1 - i) (by omega)
  have lm := fun j (hj : j < l.length) => (w_lm (allTo_iff.1 hw j hj)).2
  unfold turnI at ht ⊢
  rw [List.length_reverse, rev_at (Nat.mod_lt _ hn), rev_at hi, rev_at (Nat.mod_lt _ hn), rev_next hi, rev_prev hi]
  have hz := turn_rev (a := at_ l ((l.length - 1 - i + l.length - 1) % l.length)) (b := at_ l (l.length - 1 - i)) (c := at_ l ((l.length - 1 - i + 1) % l.length)) (lm _ (Nat.mod_lt _ hn)) (lm _ (by omega)) (lm _ (Nat.mod_lt _ hn))
  simp only [Bool.not_eq_true', beq_eq_false_iff_ne, ne_eq] at ht ⊢
  exact fun e => ht (hz.1 e)
theorem sum_rev (f : Nat → Int) : ∀ n, sumTo (fun i => f (n - 1 - i)) n = sumTo f n
  | 0 => rfl
  | n + 1 => by
    rw [← sum_shift]
    have e := sum_rev f n
    show _ = sumTo f n + f n
    rw [← e]
    congr 1
    refine sum_ext fun i hi => ?_
    congr 1
    omega
theorem cross_neg {a b : Pt} (ha : wOk a = true) (hb : wOk b = true) : crossP b a = -crossP a b ∧ -8000000 ≤ crossP a b ∧ crossP a b ≤ 8000000 := by
  obtain ⟨h1, h2, h3, h4⟩ := (w_lm ha).1
  obtain ⟨g1, g2, g3, g4⟩ := (w_lm hb).1
  have a1 := abs_le_mul (x := a.1) (y := b.2) (A := 2000) (B := 2000) (by omega) (by omega)
  have a2 := abs_le_mul (x := a.2) (y := b.1) (A := 2000) (B := 2000) (by omega) (by omega)
  unfold crossP crossV
  rw [Int.mul_comm b.1, Int.mul_comm b.2]
  rw [w64_id ⟨by omega, by omega⟩, w64_id ⟨by omega, by omega⟩]
  omega
theorem sum_bound {f : Nat → Int} {B : Int} : ∀ {n : Nat}, (∀ i, i < n → -B ≤ f i ∧ f i ≤ B) → -(B * n) ≤ sumTo f n ∧ sumTo f n ≤ B * n
  | 0, _ => by simp [sumTo]
  | n + 1, h => by
    have a := sum_bound (n := n) fun i hi => h i (by omega)
    have b := h n (by omega)
    show -(B * ((n + 1 : Nat) : Int)) ≤ sumTo f n + f n ∧ sumTo f n + f n ≤ B * ((n + 1 : Nat) : Int)
    rw [Int.natCast_succ, Int.mul_add, Int.mul_one]
    omega
theorem rev_area {l : List Pt} (hw : allW l = true) (hl : l.length ≤ 100) : areaP l.reverse = -areaP l := by
  have ok := fun j (hj : j < l.length) => allTo_iff.1 hw j hj
  have hb : ∀ i, i < l.length → -8000000 ≤ crossAt l i ∧ crossAt l i ≤ 8000000 := fun i hi => (cross_neg (ok i hi) (ok _ (Nat.mod_lt _ (by omega)))).2
  have hs := sum_bound hb
  have e : sumTo (crossAt l.reverse) l.length = -sumTo (crossAt l) l.length := by
    rw [sum_ext (g := fun i => -1 * crossAt l ((l.length - 1 - i + l.length - 1) % l.length)) fun i hi => by
      have hn : 0 < l.length := by omega
      unfold crossAt
      rw [List.length_reverse, rev_at hi, rev_at (Nat.mod_lt _ hn), rev_next hi]
      have hq := Nat.mod_lt (l.length - 1 - i + l.length - 1) hn
      rw [show ((l.length - 1 - i + l.length - 1) % l.length + 1) % l.length = l.length - 1 - i by
        rw [Nat.mod_add_mod, show l.length - 1 - i + l.length - 1 + 1 = l.length - 1 - i + l.length by omega, Nat.add_mod_right, Nat.mod_eq_of_lt (by omega)]]
      rw [(cross_neg (ok _ hq) (ok (l.length - 1 - i) (by omega))).1]
      omega]
    rw [sum_mul]
    rw [sum_rev (fun j => crossAt l ((j + l.length - 1) % l.length)) l.length]
    have hrot := sum_rot (crossAt l) l.length (l.length - 1)
    rw [sum_ext (f := fun j => crossAt l ((j + l.length - 1) % l.length)) (g := fun i => crossAt l ((i + (l.length - 1)) % l.length)) fun i hi => by rw [show i + l.length - 1 = i + (l.length - 1) by omega], hrot]
    omega
  unfold areaP
  rw [area_sum, area_sum, List.length_reverse, e]
  have : (8000000 : Int) * (l.length : Int) ≤ 800000000 := by omega
  rw [w64_id ⟨by omega, by omega⟩, w64_id ⟨by omega, by omega⟩]
theorem rev_allW {l : List Pt} (hw : allW l = true) : allW l.reverse = true := allTo_iff.2 fun i hi => by
  rw [List.length_reverse] at hi
  rw [rev_at hi]
  exact allTo_iff.1 hw _ (by omega)
theorem rev_not {l : List Pt} (hv : validR l = true) : validR l.reverse = false := by
  obtain ⟨h3, h40, hwl, ht, ha⟩ := valid_parts hv
  rw [← Bool.not_eq_true]
  intro hc
  have := (valid_parts hc).2.2.2.2
  rw [rev_area hwl (by omega)] at this
  omega
theorem clean_rev {l : List Pt} (hv : validR l = true) : cleanR l.reverse = (beginL l, 0) := by
  obtain ⟨h3, h40, hwl, ht, ha⟩ := valid_parts hv
  have hc : cleanL l.reverse = l.reverse := clean_end (by rw [no_spare (rev_turns hwl ht)]; exact Nat.lt_irrefl _)
  have htl : turnedL l.reverse = l := by
    unfold turnedL
    rw [rev_area hwl (by omega), if_pos (by omega), List.reverse_reverse]
  unfold cleanR
  rw [if_neg (by rw [List.length_reverse]; omega), rev_allW hwl, hc, htl, hv]
  rfl
theorem clean_twice {l : List Pt} (hv : validR l = true) : cleanR (l ++ [at_ l (l.length - 1)]) = (beginL l, 0) := by
  obtain ⟨h3, h40, hwl, ht, ha⟩ := valid_parts hv
  obtain ⟨m, hm⟩ : ∃ m, l ++ [at_ l (l.length - 1)] = m := ⟨_, rfl⟩
  rw [hm]
  have hlen : m.length = l.length + 1 := by rw [← hm]; simp
  have h1 : ∀ i, i < l.length → at_ m i = at_ l i := fun i hi => at_of (by rw [← hm, List.getElem?_append_left hi]; exact at_some hi)
  have h2 : at_ m l.length = at_ l (l.length - 1) := at_of (by rw [← hm, List.getElem?_append_right (Nat.le_refl _)]; simp)
  have hwm : allW m = true := allTo_iff.2 fun i hi => by
    rw [hlen] at hi
    rcases Nat.lt_or_ge i l.length with c | c
    · rw [h1 i c]; exact allTo_iff.1 hwl i c
    · rw [show i = l.length by omega, h2]; exact allTo_iff.1 hwl _ (by omega)
  have hneed : need m = l.length - 1 := by
    refine need_of (by omega) (fun j hj => ?_) fun _ => ?_
    · have hs : spare l j = false := by
        have := no_spare ht
        exact (need_is (l := l)).2.1 j (by omega)
      unfold spare at hs ⊢
      have e1 : (j + 1) % m.length = (j + 1) % l.length := by rw [hlen, Nat.mod_eq_of_lt (by omega), Nat.mod_eq_of_lt (by omega)]
      have e2 : at_ m ((j + m.length - 1) % m.length) = at_ l ((j + l.length - 1) % l.length) := by
        rcases Nat.eq_zero_or_pos j with c | c
        · subst c
          rw [Nat.zero_add, Nat.zero_add, hlen, show l.length + 1 - 1 = l.length by omega, Nat.mod_eq_of_lt (by omega), Nat.mod_eq_of_lt (by omega), h2]
        · rw [show j + m.length - 1 = j - 1 + m.length by omega, show j + l.length - 1 = j - 1 + l.length by omega, Nat.add_mod_right, Nat.add_mod_right, Nat.mod_eq_of_lt (by omega), Nat.mod_eq_of_lt (by omega), h1 _ (by omega)]
      have hq : (j + 1) % l.length < l.length := Nat.mod_lt _ (by omega)
      unfold turnI at hs ⊢
      rw [e1, e2, h1 j (by omega), h1 _ hq]
      exact hs
    · unfold spare
      rw [hlen, Nat.mod_eq_of_lt (show l.length - 1 + 1 < l.length + 1 by omega), show l.length - 1 + 1 = l.length by omega, h1 _ (by omega), h2]
      simp
  have her : m.eraseIdx (need m) = l := by
    rw [hneed, ← hm, List.eraseIdx_eq_take_drop_succ, List.take_append_of_le_length (by omega), List.drop_append_of_le_length (by omega), show l.length - 1 + 1 = l.length by omega, List.drop_length, List.nil_append]
    have hla : at_ l (l.length - 1) = l[l.length - 1]'(by omega) := at_of (List.getElem?_eq_getElem _)
    rw [hla, List.take_append_getElem (by omega)]
    exact List.take_of_length_le (by omega)
  have hc : cleanL m = l := by
    rw [← clean_step (by rw [hneed]; omega), her]
    exact clean_end (by rw [no_spare ht]; exact Nat.lt_irrefl _)
  have htl : turnedL l = l := if_neg (by omega)
  unfold cleanR
  rw [if_neg (by omega), hwm, hc, htl, hv]
  rfl
end Go.Proofs.YtahamffngmdjfaaDoor.G

namespace Go.Proofs.YtahamffngmdjfaaDoor.G
open Go.RowKit Go.Proofs.YtahamffngmdjfaaDoor.V Go.Proofs.YtahamffngmdjfaaDoor.W

/-- where the symmetry t maps a point, without wrapping -/
def exV (t : Int) (p : Pt) : Pt :=
  if t = 1 then (-p.2, p.1) else if t = 2 then (-p.1, -p.2) else if t = 3 then (p.2, -p.1) else if t = 4 then (-p.1, p.2)
  else if t = 5 then (-p.2, -p.1) else if t = 6 then (p.1, -p.2) else if t = 7 then (p.2, p.1) else (p.1, p.2)
def sgT (t : Int) : Int := if 4 ≤ t then -1 else 1

theorem exV0 (p : Pt) : exV 0 p = (p.1, p.2) := rfl
theorem sg0 : sgT 0 = 1 := rfl

theorem exV1 (p : Pt) : exV 1 p = (-p.2, p.1) := rfl
theorem sg1 : sgT 1 = 1 := rfl

theorem exV2 (p : Pt) : exV 2 p = (-p.1, -p.2) := rfl
theorem sg2 : sgT 2 = 1 := rfl

theorem exV3 (p : Pt) : exV 3 p = (p.2, -p.1) := rfl
theorem sg3 : sgT 3 = 1 := rfl

theorem exV4 (p : Pt) : exV 4 p = (-p.1, p.2) := rfl
theorem sg4 : sgT 4 = -1 := rfl

theorem exV5 (p : Pt) : exV 5 p = (-p.2, -p.1) := rfl
theorem sg5 : sgT 5 = -1 := rfl

theorem exV6 (p : Pt) : exV 6 p = (p.1, -p.2) := rfl
theorem sg6 : sgT 6 = -1 := rfl

theorem exV7 (p : Pt) : exV 7 p = (p.2, p.1) := rfl
theorem sg7 : sgT 7 = -1 := rfl

theorem mapV_ex (t : Int) {x y : Int} (h : Lm x y) : mapV t x y = exV t (x, y) := by
  unfold Lm at h
  have e1 : n64 x = -x := w64_id (by unfold I64; omega)
  have e2 : n64 y = -y := w64_id (by unfold I64; omega)
  unfold mapV exV
  rw [e1, e2]
theorem ex_lm (t : Int) {p : Pt} (h : Lm p.1 p.2) : Lm (exV t p).1 (exV t p).2 := by
  unfold Lm at h ⊢
  unfold exV
  repeat' split
  all_goals (simp only; omega)
theorem ex_wOk (t : Int) {p : Pt} (h : wOk p = true) : wOk (exV t p) = true := by
  rw [w_iff] at h ⊢
  unfold exV
  repeat' split
  all_goals (simp only; omega)
section
variable {t : Int} (ht : validT t = true)
include ht
theorem ex_inj {p q : Pt} (h : exV t p = exV t q) : p = q := by
  obtain ⟨p1, p2⟩ := p
  obtain ⟨q1, q2⟩ := q
  rcases validT_cases ht with rfl | rfl | rfl | rfl | rfl | rfl | rfl | rfl
  · simp only [exV0, Prod.mk.injEq] at h ⊢
    omega
  · simp only [exV1, Prod.mk.injEq] at h ⊢
    omega
  · simp only [exV2, Prod.mk.injEq] at h ⊢
    omega
  · simp only [exV3, Prod.mk.injEq] at h ⊢
    omega
  · simp only [exV4, Prod.mk.injEq] at h ⊢
    omega
  · simp only [exV5, Prod.mk.injEq] at h ⊢
    omega
  · simp only [exV6, Prod.mk.injEq] at h ⊢
    omega
  · simp only [exV7, Prod.mk.injEq] at h ⊢
    omega
theorem ex_inv (p : Pt) : exV (invT t) (exV t p) = p := by
  obtain ⟨p1, p2⟩ := p
  rcases validT_cases ht with rfl | rfl | rfl | rfl | rfl | rfl | rfl | rfl
  · rw [show invT 0 = 0 from rfl, exV0, exV0]
    all_goals (first | rfl | (simp only [Int.neg_neg]))
  · rw [show invT 1 = 3 from rfl, exV1, exV3]
    all_goals (first | rfl | (simp only [Int.neg_neg]))
  · rw [show invT 2 = 2 from rfl, exV2, exV2]
    all_goals (first | rfl | (simp only [Int.neg_neg]))
  · rw [show invT 3 = 1 from rfl, exV3, exV1]
    all_goals (first | rfl | (simp only [Int.neg_neg]))
  · rw [show invT 4 = 4 from rfl, exV4, exV4]
    all_goals (first | rfl | (simp only [Int.neg_neg]))
  · rw [show invT 5 = 5 from rfl, exV5, exV5]
    all_goals (first | rfl | (simp only [Int.neg_neg]))
  · rw [show invT 6 = 6 from rfl, exV6, exV6]
    all_goals (first | rfl | (simp only [Int.neg_neg]))
  · rw [show invT 7 = 7 from rfl, exV7, exV7]
    all_goals (first | rfl | (simp only [Int.neg_neg]))
theorem ex_inv' (p : Pt) : exV t (exV (invT t) p) = p := by
  obtain ⟨p1, p2⟩ := p
  rcases validT_cases ht with rfl | rfl | rfl | rfl | rfl | rfl | rfl | rfl
  · rw [show invT 0 = 0 from rfl, exV0, exV0]
    all_goals (first | rfl | (simp only [Int.neg_neg]))
  · rw [show invT 1 = 3 from rfl, exV3, exV1]
    all_goals (first | rfl | (simp only [Int.neg_neg]))
  · rw [show invT 2 = 2 from rfl, exV2, exV2]
    all_goals (first | rfl | (simp only [Int.neg_neg]))
  · rw [show invT 3 = 1 from rfl, exV1, exV3]
    all_goals (first | rfl | (simp only [Int.neg_neg]))
  · rw [show invT 4 = 4 from rfl, exV4, exV4]
    all_goals (first | rfl | (simp only [Int.neg_neg]))
  · rw [show invT 5 = 5 from rfl, exV5, exV5]
    all_goals (first | rfl | (simp only [Int.neg_neg]))
  · rw [show invT 6 = 6 from rfl, exV6, exV6]
    all_goals (first | rfl | (simp only [Int.neg_neg]))
  · rw [show invT 7 = 7 from rfl, exV7, exV7]
    all_goals (first | rfl | (simp only [Int.neg_neg]))
theorem ex_crs (a b c : Pt) : crs (exV t a).1 (exV t a).2 (exV t b).1 (exV t b).2 (exV t c).1 (exV t c).2 = sgT t * crs a.1 a.2 b.1 b.2 c.1 c.2 := by
  unfold crs
  rcases validT_cases ht with rfl | rfl | rfl | rfl | rfl | rfl | rfl | rfl
  · simp only [exV0, sg0]
    grind
  · simp only [exV1, sg1]
    grind
  · simp only [exV2, sg2]
    grind
  · simp only [exV3, sg3]
    grind
  · simp only [exV4, sg4]
    grind
  · simp only [exV5, sg5]
    grind
  · simp only [exV6, sg6]
    grind
  · simp only [exV7, sg7]
    grind
theorem ex_dot (a b p : Pt) : dotP (exV t a).1 (exV t a).2 (exV t b).1 (exV t b).2 (exV t p).1 (exV t p).2 = dotP a.1 a.2 b.1 b.2 p.1 p.2 := by
  unfold dotP
  rcases validT_cases ht with rfl | rfl | rfl | rfl | rfl | rfl | rfl | rfl
  · simp only [exV0]
    all_goals grind
  · simp only [exV1]
    all_goals grind
  · simp only [exV2]
    all_goals grind
  · simp only [exV3]
    all_goals grind
  · simp only [exV4]
    all_goals grind
  · simp only [exV5]
    all_goals grind
  · simp only [exV6]
    all_goals grind
  · simp only [exV7]
    all_goals grind
theorem sg_or : sgT t = 1 ∨ sgT t = -1 := by
  rcases validT_cases ht with rfl | rfl | rfl | rfl | rfl | rfl | rfl | rfl
  · rw [sg0]; omega
  · rw [sg1]; omega
  · rw [sg2]; omega
  · rw [sg3]; omega
  · rw [sg4]; omega
  · rw [sg5]; omega
  · rw [sg6]; omega
  · rw [sg7]; omega
theorem ex_on (a b p : Pt) : On (exV t a).1 (exV t a).2 (exV t b).1 (exV t b).2 (exV t p).1 (exV t p).2 ↔ On a.1 a.2 b.1 b.2 p.1 p.2 := by
  unfold On
  rw [ex_crs ht, ex_dot ht]
  rcases sg_or ht with h | h <;> rw [h] <;> constructor <;> rintro ⟨h1, h2⟩ <;> exact ⟨by omega, h2⟩
theorem ex_prt (a b c d : Pt) : Prt (exV t a).1 (exV t a).2 (exV t b).1 (exV t b).2 (exV t c).1 (exV t c).2 (exV t d).1 (exV t d).2 ↔ Prt a.1 a.2 b.1 b.2 c.1 c.2 d.1 d.2 := by
  unfold Prt
  rw [ex_crs ht, ex_crs ht]
  rcases sg_or ht with h | h <;> rw [h]
  · rw [Int.one_mul, Int.one_mul]
  · rw [show ∀ x y : Int, -1 * x * (-1 * y) = x * y from fun x y => by grind]
end
def exE (t : Int) (e : Ed) : Ed := (exV t e.1, exV t e.2)
theorem ex_validE (t : Int) {e : Ed} (h : validE e = true) : validE (exE t e) = true := by
  obtain ⟨h1, h2⟩ := valid_lm h
  exact lm_valid (ex_lm t h1) (ex_lm t h2)
theorem kind0_iff {e f : Ed} (h1 : validE e = true) (h2 : validE f = true) : kindE e f = 0 ↔ ((∀ z, z = e.1 ∨ z = e.2 ∨ z = f.1 ∨ z = f.2 → ¬ (On e.1.1 e.1.2 e.2.1 e.2.2 z.1 z.2 ∧ On f.1.1 f.1.2 f.2.1 f.2.2 z.1 z.2)) ∧ ¬ (Prt e.1.1 e.1.2 e.2.1 e.2.2 f.1.1 f.1.2 f.2.1 f.2.2 ∧ Prt f.1.1 f.1.2 f.2.1 f.2.2 e.1.1 e.1.2 e.2.1 e.2.2)) := by
  obtain ⟨⟨ax, ay⟩, ⟨bx, bz⟩⟩ := e
  obtain ⟨⟨cx, cy⟩, ⟨dx, dy⟩⟩ := f
  unfold kindE
  simp only [validE] at h1 h2 ⊢
  obtain ⟨ha, hb⟩ := valid_lm h1
  obtain ⟨hc, hd⟩ := valid_lm h2
  rw [kind_is h1 h2]
  have hps : (partS ax ay bx bz cx cy dx dy && partS cx cy dx dy ax ay bx bz) = true ↔ (Prt ax ay bx bz cx cy dx dy ∧ Prt cx cy dx dy ax ay bx bz) := by
    rw [Bool.and_eq_true, part_lm ha hb hc hd, part_lm hc hd ha hb]
  by_cases hne : comS ax ay bx bz cx cy dx dy = []
  · rw [hne, List.isEmpty_nil, if_pos rfl]
    constructor
    · intro h
      refine ⟨fun z hz ho => ?_, fun hp => ?_⟩
      · have := (com_of (x := z.1) (y := z.2) h1 h2 (by rcases hz with rfl | rfl | rfl | rfl <;> simp) ho.1 ho.2).1
        rw [hne] at this
        cases this
      · rw [if_pos (hps.2 hp)] at h
        omega
    · rintro ⟨_, hp⟩
      rw [if_neg (fun h => hp (hps.1 h))]
  · rw [if_neg (by rw [List.isEmpty_iff]; exact hne)]
    constructor
    · intro h
      split at h <;> omega
    · rintro ⟨hall, _⟩
      exfalso
      obtain ⟨⟨x, y⟩, hz⟩ := List.exists_mem_of_ne_nil _ hne
      obtain ⟨he, _, o1, o2⟩ := com_lm h1 h2 hz
      exact hall (x, y) (by rcases he with ⟨rfl, rfl⟩ | ⟨rfl, rfl⟩ | ⟨rfl, rfl⟩ | ⟨rfl, rfl⟩ <;> simp) ⟨o1, o2⟩
section
variable {t : Int} (ht : validT t = true)
include ht
theorem ex_kind0 {e f : Ed} (h1 : validE e = true) (h2 : validE f = true) : kindE (exE t e) (exE t f) = 0 ↔ kindE e f = 0 := by
  rw [kind0_iff h1 h2, kind0_iff (ex_validE t h1) (ex_validE t h2)]
  unfold exE
  simp only
  rw [ex_prt ht, ex_prt ht]
  refine and_congr_left fun _ => ⟨fun h z hz ho => ?_, fun h z hz ho => ?_⟩
  · refine h (exV t z) (by rcases hz with rfl | rfl | rfl | rfl <;> simp) ?_
    rw [ex_on ht, ex_on ht]
    exact ho
  · rcases hz with rfl | rfl | rfl | rfl
    all_goals
      rw [ex_on ht, ex_on ht] at ho
      exact h _ (by simp) ho
theorem ex_apart (e f : Ed) : apartE (exE t e) (exE t f) = apartE e f := by
  apply Bool.eq_iff_iff.2
  obtain ⟨⟨ax, ay⟩, ⟨bx, bz⟩⟩ := e
  obtain ⟨⟨cx, cy⟩, ⟨dx, dy⟩⟩ := f
  unfold apartE exE
  simp only [Bool.or_eq_true, decide_eq_true_eq]
  rcases validT_cases ht with rfl | rfl | rfl | rfl | rfl | rfl | rfl | rfl
  · simp only [exV0]
    all_goals omega
  · simp only [exV1]
    all_goals omega
  · simp only [exV2]
    all_goals omega
  · simp only [exV3]
    all_goals omega
  · simp only [exV4]
    all_goals omega
  · simp only [exV5]
    all_goals omega
  · simp only [exV6]
    all_goals omega
  · simp only [exV7]
    all_goals omega
end
def exL (t : Int) (l : List Pt) : List Pt := l.map (exV t)
theorem ex_len (t : Int) (l : List Pt) : (exL t l).length = l.length := List.length_map _
theorem ex_at (t : Int) {l : List Pt} {i : Nat} (hi : i < l.length) : at_ (exL t l) i = exV t (at_ l i) := at_of (by unfold exL; rw [List.getElem?_map, at_some hi]; rfl)
theorem ex_allW (t : Int) {l : List Pt} (h : allW l = true) : allW (exL t l) = true := allTo_iff.2 fun i hi => by
  rw [ex_len] at hi
  rw [ex_at t hi]
  exact ex_wOk t (allTo_iff.1 h i hi)
theorem ex_edge (t : Int) {l : List Pt} {i : Nat} (hi : i < l.length) : edgeP (exL t l) i = exE t (edgeP l i) := by
  have hn : 0 < l.length := by omega
  unfold edgeP exE
  rw [ex_len, ex_at t (Nat.mod_lt _ hn), ex_at t hi]
theorem sgn_mul {s x : Int} (h : s = 1 ∨ s = -1) : sgn (s * x) = s * sgn x := by
  rcases h with rfl | rfl
  · rw [Int.one_mul, Int.one_mul]
  · rw [Int.neg_mul, Int.one_mul, Int.neg_mul, Int.one_mul]
    unfold sgn
    repeat' split
    all_goals omega
section
variable {t : Int} (ht : validT t = true) {l : List Pt} (hw : allW l = true)
include ht hw
theorem ex_turn {i : Nat} (hi : i < l.length) : turnI (exL t l) i = sgT t * turnI l i := by
  have hn : 0 < l.length := by omega
  have lm := fun j (hj : j < l.length) => (w_lm (allTo_iff.1 hw j hj)).2
  unfold turnI turnP
  rw [ex_len, ex_at t (Nat.mod_lt _ hn), ex_at t hi, ex_at t (Nat.mod_lt _ hn)]
  rw [turn_lm (ex_lm t (lm _ (Nat.mod_lt _ hn))) (ex_lm t (lm _ hi)) (ex_lm t (lm _ (Nat.mod_lt _ hn))), turn_lm (lm _ (Nat.mod_lt _ hn)) (lm _ hi) (lm _ (Nat.mod_lt _ hn)), ex_crs ht, sgn_mul (sg_or ht)]
theorem ex_turns (h : turnsP l = true) : turnsP (exL t l) = true := allTo_iff.2 fun i hi => by
  rw [ex_len] at hi
  have h0 := allTo_iff.1 h i hi
  rw [ex_turn ht hw hi]
  rcases sg_or ht with e | e <;> rw [e] <;> simp at h0 ⊢ <;> omega
theorem ex_crossAt {i : Nat} (hi : i < l.length) : crossAt (exL t l) i = sgT t * crossAt l i := by
  have hn : 0 < l.length := by omega
  unfold crossAt
  rw [ex_len, ex_at t hi, ex_at t (Nat.mod_lt _ hn)]
  have h1 := (w_lm (allTo_iff.1 hw i hi)).1
  have h2 := (w_lm (allTo_iff.1 hw ((i + 1) % l.length) (Nat.mod_lt _ hn))).1
  have g1 := (w_lm (ex_wOk t (allTo_iff.1 hw i hi))).1
  have g2 := (w_lm (ex_wOk t (allTo_iff.1 hw ((i + 1) % l.length) (Nat.mod_lt _ hn)))).1
  obtain ⟨⟨ax, ay⟩, ha⟩ : ∃ a, at_ l i = a := ⟨_, rfl⟩
  obtain ⟨⟨bx, bz⟩, hb⟩ : ∃ a, at_ l ((i + 1) % l.length) = a := ⟨_, rfl⟩
  rw [ha] at h1 g1 ⊢
  rw [hb] at h2 g2 ⊢
  have k1 := abs_le_mul (x := ax) (y := bz) (A := 2000) (B := 2000) (by omega) (by omega)
  have k2 := abs_le_mul (x := ay) (y := bx) (A := 2000) (B := 2000) (by omega) (by omega)
  unfold crossP crossV
  simp only
  rw [w64_id (n := ax * bz - ay * bx) ⟨by omega, by omega⟩]
  have e : (exV t (ax, ay)).1 * (exV t (bx, bz)).2 - (exV t (ax, ay)).2 * (exV t (bx, bz)).1 = sgT t * (ax * bz - ay * bx) := by
    clear h1 h2 g1 g2 k1 k2 ha hb
    rcases validT_cases ht with rfl | rfl | rfl | rfl | rfl | rfl | rfl | rfl
    · simp only [exV0, sg0]
      grind
    · simp only [exV1, sg1]
      grind
    · simp only [exV2, sg2]
      grind
    · simp only [exV3, sg3]
      grind
    · simp only [exV4, sg4]
      grind
    · simp only [exV5, sg5]
      grind
    · simp only [exV6, sg6]
      grind
    · simp only [exV7, sg7]
      grind
  rw [e]
  rcases sg_or ht with h | h <;> rw [h] <;> exact w64_id ⟨by omega, by omega⟩
theorem ex_area (hl : l.length ≤ 100) : areaP (exL t l) = sgT t * areaP l := by
  have ok := fun j (hj : j < l.length) => allTo_iff.1 hw j hj
  have hb : ∀ i, i < l.length → -8000000 ≤ crossAt l i ∧ crossAt l i ≤ 8000000 := fun i hi => (cross_neg (ok i hi) (ok _ (Nat.mod_lt _ (by omega)))).2
  have hs := sum_bound hb
  unfold areaP
  rw [area_sum, area_sum, ex_len, sum_ext (g := fun i => sgT t * crossAt l i) fun i hi => ex_crossAt ht hw hi, sum_mul]
  have : (8000000 : Int) * (l.length : Int) ≤ 800000000 := by omega
  rw [w64_id (n := sumTo (crossAt l) l.length) ⟨by omega, by omega⟩]
  rcases sg_or ht with h | h <;> rw [h] <;> exact w64_id ⟨by omega, by omega⟩
theorem ex_simple (h : Simple l) : Simple (exL t l) := fun i j hi hj hne h1 h2 => by
  rw [ex_len] at hi hj h1 h2
  rw [ex_edge t hi, ex_edge t hj, ex_apart ht, ex_kind0 ht (edge_valid hw hi) (edge_valid hw hj)]
  exact h i j hi hj hne h1 h2
end
/-- the edges of a reversed ring -/
theorem rev_edge {l : List Pt} {i : Nat} (hi : i < l.length) : edgeP l.reverse i = ((edgeP l ((l.length - 1 - i + l.length - 1) % l.length)).2, (edgeP l ((l.length - 1 - i + l.length - 1) % l.length)).1) := by
  have hn : 0 < l.length := by omega
  unfold edgeP
  rw [List.length_reverse, rev_at hi, rev_at (Nat.mod_lt _ hn), rev_next hi]
  simp only
  rw [show ((l.length - 1 - i + l.length - 1) % l.length + 1) % l.length = l.length - 1 - i by
    rw [Nat.mod_add_mod, show l.length - 1 - i + l.length - 1 + 1 = l.length - 1 - i + l.length by omega, Nat.add_mod_right, Nat.mod_eq_of_lt (by omega)]]
theorem rev_simple {l : List Pt} (h : Simple l) : Simple l.reverse := fun i j hi hj hne h1 h2 => by
  rw [List.length_reverse] at hi hj h1 h2
  have hn : 0 < l.length := by omega
  rw [rev_edge hi, rev_edge hj]
  have key : ∀ k, k < l.length → (l.length - 1 - k + l.length - 1) % l.length = if k + 1 = l.length then l.length - 1 else l.length - 2 - k := fun k hk => by
    split
    · rw [show l.length - 1 - k + l.length - 1 = l.length - 1 by omega, Nat.mod_eq_of_lt (by omega)]
    · rw [show l.length - 1 - k + l.length - 1 = l.length - 2 - k + l.length by omega, Nat.add_mod_right, Nat.mod_eq_of_lt (by omega)]
  have nx : ∀ k, k < l.length → (k + 1) % l.length = if k + 1 = l.length then 0 else k + 1 := fun k hk => by
    split
    · rename_i h; rw [h, Nat.mod_self]
    · rw [Nat.mod_eq_of_lt (by omega)]
  rw [nx i hi] at h1
  rw [nx j hj] at h2
  have hi' := Nat.mod_lt (l.length - 1 - i + l.length - 1) hn
  have hj' := Nat.mod_lt (l.length - 1 - j + l.length - 1) hn
  obtain ⟨a, ha⟩ : ∃ a, (l.length - 1 - i + l.length - 1) % l.length = a := ⟨_, rfl⟩
  obtain ⟨b, hb⟩ : ∃ a, (l.length - 1 - j + l.length - 1) % l.length = a := ⟨_, rfl⟩
  rw [ha] at hi' ⊢
  rw [hb] at hj' ⊢
  rw [key i hi] at ha
  rw [key j hj] at hb
  have hs := h a b hi' hj' (by split at ha <;> split at hb <;> omega) (by rw [nx a hi']; split at ha <;> split at hb <;> split at h1 <;> split at h2 <;> split <;> omega) (by rw [nx b hj']; split at ha <;> split at hb <;> split at h1 <;> split at h2 <;> split <;> omega)
  rcases hs with hs | hs
  · refine .inl ?_
    unfold apartE at hs ⊢
    simp only [Bool.or_eq_true, decide_eq_true_eq] at hs ⊢
    omega
  · refine .inr ?_
    unfold kindE at hs ⊢
    rw [(way_left ..).1, (way_right ..).1]
    exact hs
/-- the mapped ring, which runs counterclockwise again -/
def symL (t : Int) (l : List Pt) : List Pt := if 4 ≤ t then (exL t l).reverse else exL t l
theorem sym_len (t : Int) (l : List Pt) : (symL t l).length = l.length := by
  unfold symL
  split
  · rw [List.length_reverse, ex_len]
  · exact ex_len t l
theorem sym_valid {t : Int} (ht : validT t = true) {l : List Pt} (hv : validR l = true) : validR (symL t l) = true ∧ areaP (symL t l) = areaP l := by
  obtain ⟨h3, h40, hwl, htn, ha⟩ := valid_parts hv
  have hs := simple_of hv
  have w2 := ex_allW t hwl
  have t2 := ex_turns ht hwl htn
  have s2 := ex_simple ht hwl hs
  have a2 := ex_area ht hwl (by omega)
  unfold symL
  by_cases h4 : 4 ≤ t
  · rw [if_pos h4]
    rw [show sgT t = -1 from if_pos h4] at a2
    have a3 := rev_area w2 (by rw [ex_len]; omega)
    have a4 : areaP (exL t l).reverse = areaP l := by omega
    refine ⟨?_, a4⟩
    unfold validR
    rw [List.length_reverse, ex_len, rev_allW w2, rev_turns w2 t2, a4, (simple_iff _).2 (rev_simple s2)]
    simp [h3, h40, ha]
  · rw [if_neg h4]
    rw [show sgT t = 1 from if_neg h4] at a2
    have a4 : areaP (exL t l) = areaP l := by omega
    refine ⟨?_, a4⟩
    unfold validR
    rw [ex_len, w2, t2, a4, (simple_iff _).2 s2]
    simp [h3, h40, ha]
/-- what Ring returns -/
def ringT (t : Int) (l : List Pt) : List Pt × Int := if !validT t then ([], 17) else if !validR l then ([], 11) else (beginL (symL t l), 0)
end Go.Proofs.YtahamffngmdjfaaDoor.G

namespace Go.Proofs.YtahamffngmdjfaaDoor.W
open Go.RowKit Go.Proofs.YtahamffngmdjfaaDoor.V Go.Proofs.YtahamffngmdjfaaDoor.G


theorem map_pt (t : Int) (p : Pt) (h : Lm p.1 p.2) : mapV t p.1 p.2 = exV t p := by
  cases p with
  | mk x y => exact mapV_ex t h
theorem allW_mem {l : List Pt} (hw : allW l = true) {p : Pt} (hp : p ∈ l) : wOk p = true := by
  obtain ⟨i, hi, e⟩ := List.getElem_of_mem hp
  have h := allTo_iff.1 hw i hi
  rw [at_of (List.getElem?_eq_getElem hi), e] at h
  exact h
theorem map_ex {t : Int} {l : List Pt} (hw : allW l = true) : l.map (fun p : Int × Int => mapV t p.1 p.2) = exL t l :=
  List.map_congr_left fun p hp => map_pt t p (w_lm (allW_mem hw hp)).2
set_option maxRecDepth 100000 in
set_option maxHeartbeats 6400000 in
theorem tring_any (t : Int) (l : List (Int × Int)) (v : Value) (w : World) (hT : TabQ w) (hv : SrcV w v l) (hl : l.length ≤ 1099511627776) : Calls Tryd.prog 27 #[.int .i64 t, v] w fun e w' => ∃ v', e = .returned (.tuple #[v', .int .i64 (ringT t l).2]) ∧ SrcV w' v' (ringT t l).1 ∧ Nw w w' := by
  have hmix := mixed7
  have cv := fun w1 (h : Nw w w1) => ringValid_any l v w1 (hv.nw h) hl
  have c1 := fun w1 => tvalid_any t w1
  obtain ⟨b0, hb0⟩ : ∃ b, validT t = b := ⟨_, rfl⟩
  rw [hb0] at c1
  obtain ⟨b1, hb1⟩ : ∃ b, validR l = b := ⟨_, rfl⟩
  rw [hb1] at cv
  cases b0 with
  | false =>
    rw [show ringT t l = ([], 17) by unfold ringT; rw [hb0]; rfl]
    clear hv hb1 cv
    go_enter Tryd.func27, Tryd.ntmps27
    go_wp2_with fail
    with_reducible refine (c1 _).mono ?_
    rintro e _ ⟨rfl, rfl⟩
    go_wp2_with fail
    go_ret2
    exact ⟨_, rfl, src_none _ _ _ (Nat.zero_le _), Kp.refl _ _⟩
  | true =>
  cases b1 with
  | false =>
    rw [show ringT t l = ([], 11) by unfold ringT; rw [hb0, hb1]; rfl]
    clear hv hb1 hb0
    go_enter Tryd.func27, Tryd.ntmps27
    go_wp2_with fail
    with_reducible refine (c1 _).mono ?_
    rintro e _ ⟨rfl, rfl⟩
    go_wp2_with fail
    with_reducible refine (cv _ (Kp.refl _ _)).mono ?_
    rintro e w1 ⟨rfl, k1⟩
    go_wp2_with fail
    go_ret2
    exact ⟨_, rfl, src_none _ _ _ (Nat.zero_le _), k1⟩
  | true =>
    have hR : ringT t l = (canonR (symL t l), 0) := by unfold ringT canonR; rw [hb0, hb1, (sym_valid hb0 hb1).1]; rfl
    obtain ⟨g3, g40, hwl, -, -⟩ := valid_parts hb1
    have HWL := Lib.hid hwl
    obtain ⟨A, c, rfl⟩ := hv.shape
    obtain ⟨n, hn⟩ : ∃ n, l.length = n := ⟨_, rfl⟩
    replace hv := src_n hv hn
    rw [hn] at hl g3 g40 cv ⊢
    have hmx := src_max hv
    have HV := Lib.hid hv
    have HN := Lib.hid hn
    have HR := Lib.hid hR
    have HT := Lib.hid hT
    have HL := Lib.hid hl
    have hmk := make_ring n hl
    have cm := fun w1 => mirrors_any t w1
    rw [show mirT t = decide (4 ≤ t) by unfold mirT; rw [hb0]; rfl] at cm
    obtain ⟨m, hm⟩ : ∃ m, decide (4 ≤ t) = m := ⟨_, rfl⟩
    rw [hm] at cm
    have HSY := Lib.hid (show symL t l = if m then (exL t l).reverse else exL t l by unfold symL; rw [← hm]; simp)
    clear hv hn hR hb1 hb0 hT hwl hm
    go_enter Tryd.func27, Tryd.ntmps27
    go_wp2_with fail
    with_reducible refine (c1 _).mono ?_
    rintro e _ ⟨rfl, rfl⟩
    go_wp2_with fail
    with_reducible refine (cv _ (Kp.refl _ _)).mono ?_
    rintro e w1 ⟨rfl, k1⟩
    have HW1 := Lib.hid k1
    clear k1 cv c1
    go_wp2_with fail
    obtain ⟨w2, hw2⟩ : ∃ W, w1.alloc (.cells ((List.replicate n ((0, 0) : Int × Int)).flatMap vC).toArray 23) = W := ⟨_, rfl⟩
    rw [hw2]
    have HW2 := Lib.hid (show Nw w w2 by rw [← hw2]; exact HW1.out.alloc _)
    have HR2 := Lib.hid (show RowB w2 w1.heap.size (List.replicate n (0, 0)) by rw [← hw2]; exact Blk.new _ _ _)
    have HGP := Lib.hid (show w.heap.size ≤ w1.heap.size from HW1.out.size)
    obtain ⟨G, hG⟩ : ∃ G, w1.heap.size = G := ⟨_, rfl⟩
    rw [hG] at HR2 HGP ⊢
    clear hw2 hmk hG HW1
    go_loopw [22] (fun i wr => ∃ (k : Nat) (M : List (Int × Int)), i = .int .i64 k ∧ k ≤ n ∧ M.length = n ∧ (∀ j, j < k → M[j]? = some (mapV t (at_ l j).1 (at_ l j).2)) ∧ RowB wr G M ∧ Nw w wr) (fun i _ => n - (intOf i).toNat)
    case atStart => exact ⟨0, _, rfl, Nat.zero_le _, List.length_replicate, fun j h => absurd h (Nat.not_lt_zero _), HR2.out, HW2.out⟩
    case round =>
      obtain ⟨k, M, rfl, hk, hml, hall, hrow, hnw⟩ := hrel
      have HML := Lib.hid hml
      have HALL := Lib.hid hall
      have HROW := Lib.hid hrow
      clear hml hall hrow
      have HK := Lib.hid hnw
      clear hnw
      by_cases hkn : k < n
      · have i0 : (0 : Int) ≤ (k : Int) := by omega
        have i1 : (k : Int) < (n : Int) := by omega
        obtain ⟨s4, hs4⟩ : ∃ s : Nat, k + 1 = s := ⟨_, rfl⟩
        have a4 : IntKind.i64.wrap ((k : Int) + 1) = (s4 : Int) := by rw [IntKind.wrap_i64]; omega
        have H4 := Lib.hid hs4
        obtain ⟨g, o, rfl, hg, hc⟩ := src_at HV.out (by omega)
        obtain ⟨⟨ax, ay⟩, ha⟩ : ∃ p, at_ l k = p := ⟨_, rfl⟩
        obtain ⟨y0, y1⟩ := hc wr HK.out k hkn
        rw [ha] at y0 y1
        have HA := Lib.hid ha
        have hok := (w_lm (allTo_iff.1 HWL.out k (by rw [HN.out]; exact hkn))).2
        rw [ha] at hok
        unfold Lm at hok
        have ca := fun w1 (h : Nw w w1) => tvec_any t ax ay w1 (HT.out.nw h) ⟨by omega, by omega⟩ ⟨by omega, by omega⟩
        obtain ⟨⟨sx, sy⟩, hs⟩ : ∃ s, mapV t ax ay = s := ⟨_, rfl⟩
        rw [hs] at ca
        have HS := Lib.hid hs
        clear hc hg ha hs4 hs hok
        go_upto_region 9 with fail
        generalize hwb : World.alloc _ (.cells #[.int .i64 ax, .int .i64 ay] _) = wb
        have HKB := Lib.hid (show Nw w wb by rw [← hwb]; exact HK.out.alloc _)
        obtain ⟨c0, c1, -, -⟩ := Blk.two (show Blk wb wr.heap.size 23 #[.int .i64 ax, .int .i64 ay] by rw [← hwb]; exact Blk.new _ _ _)
        have HRB := Lib.hid (show RowB wb G M by rw [← hwb]; exact HROW.out.alloc _)
        clear hwb y0 y1
        go_wp2_with fail
        with_reducible refine (ca _ HKB.out).mono ?_
        rintro e w5 ⟨rfl, k5⟩
        have HK5 := Lib.hid (HKB.out.tr k5)
        have HR5 := Lib.hid (show RowB w5 G M from HRB.out.kp k5 id)
        have hKL : k < M.length := by rw [HML.out]; exact hkn
        obtain ⟨e0, he0⟩ : ∃ e, M[k]? = some e := ⟨_, List.getElem?_eq_getElem hKL⟩
        obtain ⟨⟨x0, x1⟩, y4, y5⟩ := HR5.out.at_ he0
        clear k5 c0 c1 ca he0 hKL
        go_wp2_with fail
        go_roundw
        case rel =>
          refine ⟨k + 1, _, by rw [← H4.out], by omega, ?_, fun j hj => ?_, HR5.out.set_ k sx sy, (HK5.out.new HGP.out (k * 2) _).new HGP.out (k * 2 + 1) _⟩
          · rw [List.length_set]; exact HML.out
          · rcases Nat.lt_or_ge j k with h | h
            · rw [List.getElem?_set_ne (by omega)]
              exact HALL.out j h
            · obtain rfl : j = k := by omega
              rw [List.getElem?_set_self (by rw [HML.out]; exact hkn), HA.out, HS.out]
        case measure => (have := H4.out; simp [intOf]; try omega)
      · obtain rfl : k = n := by omega
        have i5 : ¬ ((k : Int) < (k : Int)) := by omega
        have hME : M = l.map (fun p : Int × Int => mapV t p.1 p.2) := by
          apply List.ext_getElem?
          intro j
          rw [List.getElem?_map]
          rcases Nat.lt_or_ge j k with hj | hj
          · rw [HALL.out j hj, at_some (by rw [HN.out]; exact hj)]
            rfl
          · rw [List.getElem?_eq_none (by rw [HML.out]; exact hj), List.getElem?_eq_none (by rw [HN.out]; exact hj)]
            rfl
        have hsrc : SrcV wr (.slice (some ⟨G, 0, none⟩) k k) M := HROW.out.src HML.out (by have := hmx.1; have := hmx.2.2; omega)
        have hlen : (exL t l).length ≤ 1099511627776 := by rw [ex_len, HN.out]; exact HL.out
        rw [hME, map_ex HWL.out] at hsrc
        have cr := fun w1 (h : Nw wr w1) => ringReverse_any (exL t l) _ w1 (hsrc.nw h) hlen
        have HSRC := Lib.hid hsrc
        clear hME hsrc
        cases m
        · have cc := fun w1 (h : Nw wr w1) => canon_any (exL t l) _ w1 (HSRC.out.nw h) hlen
          go_wp2_with fail
          with_reducible refine (cm _).mono ?_
          rintro e _ ⟨rfl, rfl⟩
          go_wp2_with fail
          with_reducible refine (cc _ (Kp.refl _ _)).mono ?_
          rintro e w5 ⟨v5, rfl, o5, k5⟩
          go_wp2_with fail
          go_ret2
          rw [HR.out, HSY.out]
          exact ⟨_, rfl, o5.src, HK.out.tr k5⟩
        · go_wp2_with fail
          with_reducible refine (cm _).mono ?_
          rintro e _ ⟨rfl, rfl⟩
          go_wp2_with fail
          with_reducible refine (cr _ (Kp.refl _ _)).mono ?_
          rintro e w4 ⟨v4, rfl, o4, k4⟩
          have cc := canon_any (exL t l).reverse v4 w4 o4.src (by rw [List.length_reverse]; exact hlen)
          go_wp2_with fail
          with_reducible refine cc.mono ?_
          rintro e w5 ⟨v5, rfl, o5, k5⟩
          go_wp2_with fail
          go_ret2
          rw [HR.out, HSY.out]
          exact ⟨_, rfl, o5.src, HK.out.tr (k4.tr k5)⟩

end Go.Proofs.YtahamffngmdjfaaDoor.W

namespace Go.Proofs.YtahamffngmdjfaaDoor.W
open Go.RowKit Go.Proofs.YtahamffngmdjfaaDoor.V Go.Proofs.YtahamffngmdjfaaDoor.G


set_option maxRecDepth 100000 in
set_option maxHeartbeats 6400000 in
theorem rtring_any (t : Int) (l : List (Int × Int)) (v : Value) (w : World) (hv : SrcV w v l) (hl : l.length ≤ 1099511627776) : Calls Tryd.prog 28 #[.int .i64 t, v] w fun e w' => ∃ v', e = .returned (.tuple #[v', .int .i64 (ringT t l).2]) ∧ SrcV w' v' (ringT t l).1 ∧ Nw w w' := by
  have hmix := mixed7
  have cv := fun w1 (h : Nw w w1) => rvalid8_any l v w1 (hv.nw h) hl
  have c1 := fun w1 => rtvalid_any t w1
  obtain ⟨b0, hb0⟩ : ∃ b, validT t = b := ⟨_, rfl⟩
  rw [hb0] at c1
  obtain ⟨b1, hb1⟩ : ∃ b, validR l = b := ⟨_, rfl⟩
  rw [hb1] at cv
  cases b0 with
  | false =>
    rw [show ringT t l = ([], 17) by unfold ringT; rw [hb0]; rfl]
    clear hv hb1 cv
    go_enter Tryd.func28, Tryd.ntmps28
    go_wp2_with fail
    with_reducible refine (c1 _).mono ?_
    rintro e _ ⟨rfl, rfl⟩
    go_wp2_with fail
    go_ret2
    exact ⟨_, rfl, src_none _ _ _ (Nat.zero_le _), Kp.refl _ _⟩
  | true =>
  cases b1 with
  | false =>
    rw [show ringT t l = ([], 11) by unfold ringT; rw [hb0, hb1]; rfl]
    clear hv hb1 hb0
    go_enter Tryd.func28, Tryd.ntmps28
    go_wp2_with fail
    with_reducible refine (c1 _).mono ?_
    rintro e _ ⟨rfl, rfl⟩
    go_wp2_with fail
    with_reducible refine (cv _ (Kp.refl _ _)).mono ?_
    rintro e w1 ⟨rfl, k1⟩
    go_wp2_with fail
    go_ret2
    exact ⟨_, rfl, src_none _ _ _ (Nat.zero_le _), k1⟩
  | true =>
    have hR : ringT t l = (beginL (symL t l), 0) := by unfold ringT; rw [hb0, hb1]; rfl
    obtain ⟨g3, g40, hwl, -, -⟩ := valid_parts hb1
    have HWL := Lib.hid hwl
    obtain ⟨A, c, rfl⟩ := hv.shape
    obtain ⟨n, hn⟩ : ∃ n, l.length = n := ⟨_, rfl⟩
    replace hv := src_n hv hn
    rw [hn] at hl g3 g40 cv ⊢
    have hmx := src_max hv
    have HV := Lib.hid hv
    have HN := Lib.hid hn
    have HR := Lib.hid hR
    obtain ⟨m, hm⟩ : ∃ m, decide (4 ≤ t) = m := ⟨_, rfl⟩
    have HSY := Lib.hid (show symL t l = if m then (exL t l).reverse else exL t l by unfold symL; rw [← hm]; simp)
    have HM := Lib.hid hm
    clear hv hn hR hb1 hb0 hwl hm
    go_enter Tryd.func28, Tryd.ntmps28
    go_wp2_with fail
    with_reducible refine (c1 _).mono ?_
    rintro e _ ⟨rfl, rfl⟩
    go_wp2_with fail
    with_reducible refine (cv _ (Kp.refl _ _)).mono ?_
    rintro e w1 ⟨rfl, k1⟩
    have HW2 := Lib.hid k1
    clear k1 cv c1
    go_wp2_with fail
    go_loopw [6, 7] (fun ov i wr => ∃ k : Nat, i = .int .i64 k ∧ k ≤ n ∧ wr.ownsRow w1.heap.size 23 2 ov k (((l.take k).map (fun p : Int × Int => mapV t p.1 p.2)).flatMap vC) ∧ Nw w1 wr) (fun ov i _ => n - (intOf i).toNat)
    case atStart => exact ⟨0, rfl, Nat.zero_le _, World.ownsRow_nil _ _ _ _, Kp.refl _ _⟩
    case round =>
      obtain ⟨k, rfl, hk, hown, hnw⟩ := hrel
      obtain ⟨A6, c6, rfl⟩ := (own_src hown).shape
      have HO := Lib.hid hown
      clear hown
      have HK := Lib.hid hnw
      clear hnw
      by_cases hkn : k < n
      · have i0 : (0 : Int) ≤ (k : Int) := by omega
        have i1 : (k : Int) < (n : Int) := by omega
        obtain ⟨s4, hs4⟩ : ∃ s : Nat, k + 1 = s := ⟨_, rfl⟩
        have a4 : IntKind.i64.wrap ((k : Int) + 1) = (s4 : Int) := by rw [IntKind.wrap_i64]; omega
        have H4 := Lib.hid hs4
        obtain ⟨g, o, rfl, hg, hc⟩ := src_at HV.out (by omega)
        obtain ⟨⟨ax, ay⟩, ha⟩ : ∃ p, at_ l k = p := ⟨_, rfl⟩
        obtain ⟨y0, y1⟩ := hc wr (HW2.out.tr HK.out) k hkn
        rw [ha] at y0 y1
        have hok := (w_lm (allTo_iff.1 HWL.out k (by rw [HN.out]; exact hkn))).2
        rw [ha] at hok
        unfold Lm at hok
        have cadd := fun w1 => rtvec_any t ax ay w1 ⟨by omega, by omega⟩ ⟨by omega, by omega⟩
        obtain ⟨⟨sx, sy⟩, hs⟩ : ∃ s, mapV t ax ay = s := ⟨_, rfl⟩
        rw [hs] at cadd
        have htk : (l.take (k + 1)).map (fun p : Int × Int => mapV t p.1 p.2) = (l.take k).map (fun p : Int × Int => mapV t p.1 p.2) ++ [(sx, sy)] := by
          rw [List.take_add_one, at_some (by rw [HN.out]; exact hkn), ha, List.map_append, ← hs]
          rfl
        have HTK := Lib.hid htk
        clear hc hg ha hs4 hs htk hok
        go_wp2_with fail
        with_reducible refine (cadd _).mono ?_
        rintro e w5 ⟨rfl, k5⟩
        have hB : w1.heap.size ≤ w5.heap.size := Nat.le_trans HK.out.size k5.size
        go_wp2_with (at_builtin; refine wp_pushG rfl (.tmp 20) (.tmp 27) 35 23 2 16 (.agg #[.int .i64 0, .int .i64 0]) rfl Tryd.underlying35 infoVec rfl (by omega) w1.heap.size k _ _ [.int .i64 sx, .int .i64 sy] (by rfl) (own_nw HO.out k5) rfl (by intro u hu; simp at hu; rcases hu with rfl | rfl <;> rfl) (by rfl) (by omega) (by omega) hB ?_; intro v6 w6 own6 gr6)
        have HK6 := Lib.hid (gr6.nw (HK.out.tr k5) (own_from HO.out))
        have HO6 := Lib.hid own6
        clear own6 gr6 y0 y1 cadd k5 hB
        go_wp2_with fail
        go_roundw
        case rel =>
          refine ⟨k + 1, by rw [← H4.out], by omega, ?_, HK6.out⟩
          rw [HTK.out, List.flatMap_append]
          exact HO6.out
        case measure => (have := H4.out; simp [intOf]; try omega)
      · obtain rfl : k = n := by omega
        have i5 : ¬ ((k : Int) < (k : Int)) := by omega
        have hsrc := own_src HO.out
        rw [List.take_of_length_le (by rw [HN.out]; exact Nat.le_refl _), map_ex HWL.out] at hsrc
        have hsv : SrcV wr (.slice A6 k c6) (exL t l) := by
          show Src _ 2 _ (exL t l).length _
          rw [ex_len, HN.out]
          exact hsrc
        have hlen : (exL t l).length ≤ 1048576 := by rw [ex_len, HN.out]; omega
        have cr := fun w1 (h : Nw wr w1) => rreverse_any (exL t l) _ w1 (hsv.nw h) (by omega)
        have HSRC := Lib.hid hsv
        have HF := Lib.hid (HW2.out.tr HK.out)
        clear hsrc hsv HO
        cases m
        · have h4 : decide (4 ≤ t) = false := HM.out
          have cc := fun w1 (h : Nw wr w1) => rbegin_any (exL t l) _ w1 (HSRC.out.nw h) hlen
          go_wp2_with fail
          with_reducible refine (cc _ (Kp.refl _ _)).mono ?_
          rintro e w5 ⟨v5, rfl, o5, k5⟩
          go_wp2_with fail
          go_ret2
          rw [HR.out, HSY.out]
          exact ⟨_, rfl, o5, HF.out.tr k5⟩
        · have h4 : decide (4 ≤ t) = true := HM.out
          go_wp2_with fail
          with_reducible refine (cr _ (Kp.refl _ _)).mono ?_
          rintro e w4 ⟨v4, rfl, o4, k4⟩
          have cc := rbegin_any (exL t l).reverse v4 w4 o4 (by rw [List.length_reverse]; exact hlen)
          go_wp2_with fail
          with_reducible refine cc.mono ?_
          rintro e w5 ⟨v5, rfl, o5, k5⟩
          go_wp2_with fail
          go_ret2
          rw [HR.out, HSY.out]
          exact ⟨_, rfl, o5, HF.out.tr (k4.tr k5)⟩

end Go.Proofs.YtahamffngmdjfaaDoor.W
