/-
  ring, plain: a ring that begins with another vertex is valid as before and has the same area; a canonical ring is its own canonical and cleaned ring. No condition.
  ring, plain: where a rational point lies: the way of the program, by edges that lead upwards, is the reference's. Conditions: the coordinates are within 2000, the point is valid.
  ring, plain: around a ring a height is crossed an even number of times; a point beyond the limits is not inside; a moved ring has the same area, turns and places. Conditions: those of each sentence.
-/
import Derived.Test.YthifljljaejfmaaJ21
namespace Go.Proofs.Ythifljljaejfmaa.G
open Go.RowKit Go.Proofs.Ythifljljaejfmaa.V Go.Proofs.Ythifljljaejfmaa.W

theorem rot_len {l : List Pt} {k : Nat} (hk : k ≤ l.length) : (rotL l k).length = l.length := by
  unfold rotL
  rw [List.length_append, List.length_drop, List.length_take]
  omega
theorem rot_at {l : List Pt} {k i : Nat} (hk : k ≤ l.length) (hi : i < l.length) : at_ (rotL l k) i = at_ l ((i + k) % l.length) := by
  apply at_of
  unfold rotL
  rcases Nat.lt_or_ge i (l.length - k) with h | h
  · rw [List.getElem?_append_left (by rw [List.length_drop]; exact h), List.getElem?_drop, Nat.mod_eq_of_lt (by omega), Nat.add_comm]
    exact at_some (by omega)
  · rw [List.getElem?_append_right (by rw [List.length_drop]; exact h), List.length_drop, List.getElem?_take_of_lt (by omega), Nat.mod_eq_sub_mod (by omega), Nat.mod_eq_of_lt (by omega), show i - (l.length - k) = i + k - l.length by omega]
    exact at_some (by omega)
theorem mod_next (i k n : Nat) : ((i + 1) % n + k) % n = ((i + k) % n + 1) % n := by
  rw [Nat.mod_add_mod, Nat.mod_add_mod]
  congr 1
  omega
theorem mod_prev {i k n : Nat} (hn : 0 < n) : ((i + n - 1) % n + k) % n = ((i + k) % n + n - 1) % n := by
  rw [Nat.mod_add_mod, show (i + k) % n + n - 1 = (i + k) % n + (n - 1) by omega, Nat.mod_add_mod]
  congr 1
  omega
theorem rot_turn {l : List Pt} {k i : Nat} (hk : k ≤ l.length) (hi : i < l.length) : turnI (rotL l k) i = turnI l ((i + k) % l.length) := by
  have hn : 0 < l.length := by omega
  unfold turnI
  rw [rot_len hk, rot_at hk (Nat.mod_lt _ hn), rot_at hk hi, rot_at hk (Nat.mod_lt _ hn), mod_next, mod_prev hn]
theorem rot_edge {l : List Pt} {k i : Nat} (hk : k ≤ l.length) (hi : i < l.length) : edgeP (rotL l k) i = edgeP l ((i + k) % l.length) := by
  have hn : 0 < l.length := by omega
  unfold edgeP
  rw [rot_len hk, rot_at hk hi, rot_at hk (Nat.mod_lt _ hn), mod_next]
theorem rot_back {n k j : Nat} (hk : k ≤ n) (hj : j < n) : (j + n - k) % n < n ∧ ((j + n - k) % n + k) % n = j := by
  refine ⟨Nat.mod_lt _ (by omega), ?_⟩
  rw [Nat.mod_add_mod, show j + n - k + k = j + n by omega, Nat.add_mod_right, Nat.mod_eq_of_lt hj]
theorem rot_all {n k : Nat} (hk : k ≤ n) (P : Nat → Prop) : (∀ i, i < n → P ((i + k) % n)) ↔ ∀ i, i < n → P i := by
  constructor
  · intro h j hj
    obtain ⟨h1, h2⟩ := rot_back hk hj
    have := h _ h1
    rwa [h2] at this
  · intro h i hi
    exact h _ (Nat.mod_lt _ (by omega))
theorem rot_allW {l : List Pt} {k : Nat} (hk : k ≤ l.length) : allW (rotL l k) = allW l := by
  apply Bool.eq_iff_iff.2
  unfold allW
  rw [allTo_iff, allTo_iff, rot_len hk, ← rot_all hk fun i => wOk (at_ l i) = true]
  exact ⟨fun h i hi => by rw [← rot_at hk hi]; exact h i hi, fun h i hi => by rw [rot_at hk hi]; exact h i hi⟩
theorem rot_turns {l : List Pt} {k : Nat} (hk : k ≤ l.length) : turnsP (rotL l k) = turnsP l := by
  apply Bool.eq_iff_iff.2
  unfold turnsP
  rw [allTo_iff, allTo_iff, rot_len hk, ← rot_all hk fun i => (!(turnI l i == 0)) = true]
  exact ⟨fun h i hi => by rw [← rot_turn hk hi]; exact h i hi, fun h i hi => by rw [rot_turn hk hi]; exact h i hi⟩

def sumTo (f : Nat → Int) : Nat → Int
  | 0 => 0
  | k + 1 => sumTo f k + f k
theorem sum_ext {f g : Nat → Int} : ∀ {k : Nat}, (∀ i, i < k → f i = g i) → sumTo f k = sumTo g k
  | 0, _ => rfl
  | k + 1, h => by
    show sumTo f k + f k = sumTo g k + g k
    rw [sum_ext fun i hi => h i (by omega), h k (by omega)]
theorem sum_shift (g : Nat → Int) : ∀ k, sumTo (fun i => g (i + 1)) k + g 0 = sumTo g (k + 1)
  | 0 => rfl
  | k + 1 => by
    show sumTo (fun i => g (i + 1)) k + g (k + 1) + g 0 = sumTo g (k + 1) + g (k + 1)
    rw [← sum_shift g k]
    omega
theorem sum_one (g : Nat → Int) (n : Nat) : sumTo (fun i => g ((i + 1) % n)) n = sumTo g n := by
  cases n with
  | zero => rfl
  | succ n =>
    rw [← sum_shift g n]
    show sumTo (fun i => g ((i + 1) % (n + 1))) n + g ((n + 1) % (n + 1)) = _
    rw [Nat.mod_self, sum_ext (g := fun i => g (i + 1)) fun i hi => by rw [Nat.mod_eq_of_lt (by omega)]]
theorem sum_rot (g : Nat → Int) (n : Nat) : ∀ k, sumTo (fun i => g ((i + k) % n)) n = sumTo g n
  | 0 => sum_ext fun i hi => by rw [Nat.add_zero, Nat.mod_eq_of_lt hi]
  | k + 1 => by
    rw [← sum_rot g n k, ← sum_one (fun i => g ((i + k) % n)) n]
    refine sum_ext fun i hi => ?_
    rw [Nat.mod_add_mod]
    congr 2
    omega
def crossAt (l : List Pt) (i : Nat) : Int := crossP (at_ l i) (at_ l ((i + 1) % l.length))
theorem area_sum (l : List Pt) : ∀ k, areaTo l k = w64 (sumTo (crossAt l) k)
  | 0 => (w64_id (n := 0) ⟨by omega, by omega⟩).symm
  | k + 1 => by
    show w64 (areaTo l k + crossAt l k) = w64 (sumTo (crossAt l) k + crossAt l k)
    rw [area_sum l k, w64_addl]
theorem rot_area {l : List Pt} {k : Nat} (hk : k ≤ l.length) : areaP (rotL l k) = areaP l := by
  unfold areaP
  rw [area_sum, area_sum, rot_len hk, ← sum_rot (crossAt l) l.length k]
  congr 1
  refine sum_ext fun i hi => ?_
  unfold crossAt
  rw [rot_len hk, rot_at hk hi, rot_at hk (Nat.mod_lt _ (by omega)), mod_next]
theorem apart_comm (e f : Ed) : apartE e f = apartE f e := by
  unfold apartE
  rw [Bool.or_comm (decide (max e.1.1 e.2.1 < _)), Bool.or_assoc, Bool.or_comm (decide (max e.1.2 e.2.2 < _)), ← Bool.or_assoc]
theorem kind_comm (e f : Ed) : kindE e f = kindE f e := (way_swap ..).1
def Simple (l : List Pt) : Prop := ∀ i j, i < l.length → j < l.length → i ≠ j → (i + 1) % l.length ≠ j → (j + 1) % l.length ≠ i → apartE (edgeP l i) (edgeP l j) = true ∨ kindE (edgeP l i) (edgeP l j) = 0
theorem simple_iff (l : List Pt) : simpleP l = true ↔ Simple l := by
  unfold simpleP
  rw [allTo_iff]
  constructor
  · intro h
    have hlt : ∀ i j, i < l.length → j < l.length → i < j → (i + 1) % l.length ≠ j → (j + 1) % l.length ≠ i → apartE (edgeP l i) (edgeP l j) = true ∨ kindE (edgeP l i) (edgeP l j) = 0 := fun i j hi hj hij h1 h2 => by
      have := allTo_iff.1 (h i hi) j hj
      unfold pairOk at this
      have c1 : ¬ j < i + 2 := by
        intro c
        apply h1
        rw [Nat.mod_eq_of_lt (by omega)]
        omega
      simp [c1, h2] at this
      exact this
    intro i j hi hj hne h1 h2
    rcases Nat.lt_or_gt_of_ne hne with c | c
    · exact hlt i j hi hj c h1 h2
    · rw [apart_comm, kind_comm]
      exact hlt j i hj hi c h2 h1
  · intro h i hi
    refine allTo_iff.2 fun j hj => ?_
    unfold pairOk
    by_cases c1 : j < i + 2
    · simp [c1]
    · by_cases c2 : (j + 1) % l.length = i
      · simp [c2]
      · have := h i j hi hj (by omega) (by
          intro e
          rcases Nat.lt_or_ge (i + 1) l.length with c | c
          · rw [Nat.mod_eq_of_lt c] at e; omega
          · omega) c2
        simp [c1, c2]
        exact this
theorem rot_inj {n k i j : Nat} (hi : i < n) (hj : j < n) (h : (i + k) % n = (j + k) % n) : i = j := by
  have h2 := congrArg (fun z => (z + (n - k % n)) % n) h
  simp only [Nat.mod_add_mod] at h2
  have e : ∀ a, a < n → (a + k + (n - k % n)) % n = a := fun a ha => by
    have hk := Nat.mod_lt k (show 0 < n by omega)
    have hd := Nat.div_add_mod k n
    rw [show a + k + (n - k % n) = a + n + n * (k / n) by omega, Nat.add_mul_mod_self_left, Nat.add_mod_right, Nat.mod_eq_of_lt ha]
  rwa [e i hi, e j hj] at h2
theorem rot_simple {l : List Pt} {k : Nat} (hk : k ≤ l.length) (h : Simple l) : Simple (rotL l k) := by
  intro i j hi hj hne h1 h2
  rw [rot_len hk] at hi hj h1 h2
  have hn : 0 < l.length := by omega
  rw [rot_edge hk hi, rot_edge hk hj]
  refine h _ _ (Nat.mod_lt _ hn) (Nat.mod_lt _ hn) (fun e => hne (rot_inj hi hj e)) (fun e => h1 ?_) (fun e => h2 ?_)
  · rw [← mod_next] at e
    exact rot_inj (Nat.mod_lt _ hn) hj e
  · rw [← mod_next] at e
    exact rot_inj (Nat.mod_lt _ hn) hi e
theorem rot_valid {l : List Pt} {k : Nat} (hk : k ≤ l.length) (h : validR l = true) : validR (rotL l k) = true := by
  unfold validR at h ⊢
  rw [rot_len hk, rot_allW hk, rot_turns hk, rot_area hk]
  simp only [Bool.and_eq_true] at h ⊢
  exact ⟨h.1, (simple_iff _).2 (rot_simple hk ((simple_iff _).1 h.2))⟩

/-- a ring that begins with its least vertex is its own canonical ring -/
theorem low_zero {l : List Pt} : ∀ {k : Nat}, (∀ j, j < k → ¬ ltV (at_ l j) (at_ l 0)) → lowTo l k = 0
  | 0, _ => rfl
  | k + 1, h => by
    have := low_zero (l := l) (k := k) fun j hj => h j (by omega)
    unfold lowTo
    rw [this]
    exact if_neg (h k (by omega))
theorem begin_again {l : List Pt} (hl : 0 < l.length) : beginL (beginL l) = beginL l := by
  have hlow : low l < l.length := lowTo_lt hl
  have hk := Nat.le_of_lt hlow
  have h0 : low (beginL l) = 0 := by
    unfold low
    refine low_zero fun j hj => ?_
    unfold beginL at hj ⊢
    rw [rot_len hk] at hj
    rw [rot_at hk hj, rot_at hk hl, Nat.zero_add, Nat.mod_eq_of_lt hlow]
    exact (lowTo_is (l := l) (k := l.length) _ (Nat.mod_lt _ hl)).1
  show rotL (beginL l) (low (beginL l)) = beginL l
  rw [h0]
  unfold rotL
  rw [List.drop_zero, List.take_zero, List.append_nil]
theorem turn_same (a b : Pt) : turnP a b b = 0 := by
  unfold turnP turnV
  rw [show (b.1 - a.1) * (b.2 - a.2) - (b.2 - a.2) * (b.1 - a.1) = 0 by rw [Int.mul_comm]; omega]
  decide +kernel
theorem no_spare {l : List Pt} (h : turnsP l = true) : need l = l.length := by
  refine need_of (Nat.le_refl _) (fun j hj => ?_) fun c => absurd c (Nat.lt_irrefl _)
  have ht := allTo_iff.1 h j hj
  unfold spare
  rw [Bool.or_eq_false_iff]
  refine ⟨?_, by simpa using ht⟩
  rw [Bool.eq_false_iff]
  intro e
  have e := eq_of_beq e
  unfold turnI at ht
  rw [← e, turn_same] at ht
  simp at ht
theorem valid_parts {l : List Pt} (h : validR l = true) : 3 ≤ l.length ∧ l.length ≤ 40 ∧ allW l = true ∧ turnsP l = true ∧ 0 < areaP l := by
  unfold validR at h
  simp only [Bool.and_eq_true, decide_eq_true_eq] at h
  exact ⟨h.1.1.1.1.1, h.1.1.1.1.2, h.1.1.1.2, h.1.1.2, h.1.2⟩
theorem clean_valid {l : List Pt} (h : validR l = true) : cleanR l = (beginL l, 0) := by
  obtain ⟨h1, h2, h3, h4, h5⟩ := valid_parts h
  have hc : cleanL l = l := clean_end (by rw [no_spare h4]; exact Nat.lt_irrefl _)
  have ht : turnedL l = l := if_neg (by omega)
  unfold cleanR
  rw [if_neg (by omega), h3, hc, ht, h]
  rfl
theorem clean_result {l : List Pt} (h : (cleanR l).2 = 0) : validR (cleanR l).1 = true ∧ cleanR (cleanR l).1 = ((cleanR l).1, 0) ∧ canonR (cleanR l).1 = (cleanR l).1 := by
  unfold cleanR at h
  split at h
  · cases h
  · rename_i h200
    split at h
    · cases h
    · rename_i hw
      split at h
      · cases h
      · rename_i hv
        have hv : validR (turnedL (cleanL l)) = true := by simpa using hv
        have e : cleanR l = (beginL (turnedL (cleanL l)), 0) := by
          unfold cleanR
          rw [if_neg h200, if_neg hw, hv]
          rfl
        rw [e]
        have h3 := (valid_parts hv).1
        have hb : validR (beginL (turnedL (cleanL l))) = true := rot_valid (Nat.le_of_lt (lowTo_lt (by omega))) hv
        refine ⟨hb, ?_, ?_⟩
        · rw [clean_valid hb, begin_again (by omega)]
        · unfold canonR
          rw [hb]
          exact begin_again (by omega)
theorem clean_none {l : List Pt} (h : (cleanR l).2 ≠ 0) : (cleanR l).1 = [] := by
  unfold cleanR at h ⊢
  split at h
  · rename_i c; rw [if_pos c]
  · rename_i c
    rw [if_neg c]
    split at h
    · rename_i c2; rw [if_pos c2]
    · rename_i c2
      rw [if_neg c2]
      split at h
      · rename_i c3; rw [if_pos c3]
      · exact absurd rfl h
end Go.Proofs.Ythifljljaejfmaa.G

namespace Go.Proofs.Ythifljljaejfmaa.G
open Go.RowKit Go.Proofs.Ythifljljaejfmaa.V Go.Proofs.Ythifljljaejfmaa.W

/-- the edge, its lower end first -/
def upE (e : Ed) : Ed := if lessV e.2.1 e.2.2 e.1.1 e.1.2 then (e.2, e.1) else e
def onU (e : Ed) (x y d : Int) : Bool := (sideP e x y d == 0) && !lessV x y (e.1.1 * d) (e.1.2 * d) && !lessV (e.2.1 * d) (e.2.2 * d) x y
def crU (e : Ed) (x y d : Int) : Bool := decide (0 < sideP e x y d) && decide (e.1.2 * d ≤ y) && decide (y < e.2.2 * d)
theorem side_turn (a b : Pt) (x y d : Int) : sideP (b, a) x y d = -sideP (a, b) x y d := by unfold sideP; grind
theorem on_turn (a b : Pt) (x y d : Int) : onP (b, a) x y d = onP (a, b) x y d := by
  unfold onP
  rw [side_turn, Int.min_comm, Int.max_comm, Int.min_comm b.2, Int.max_comm b.2]
  congr 1
  apply Bool.eq_iff_iff.2
  simp only [beq_iff_eq]
  omega
theorem cross_turn (a b : Pt) (x y d : Int) : crossesP (b, a) x y d = crossesP (a, b) x y d := by
  unfold crossesP upP downP
  rw [side_turn]
  apply Bool.eq_iff_iff.2
  simp only [Bool.or_eq_true, Bool.and_eq_true, decide_eq_true_eq]
  omega
theorem le_of_mul {k a b : Int} (hk : 0 < k) (h : k * a ≤ k * b) : a ≤ b := Int.le_of_mul_le_mul_left h hk
theorem on_low {ax ay bx bz x y d : Int} (hd : 0 < d) (hl : ay < bz ∨ ay = bz ∧ ax ≤ bx) : onU ((ax, ay), (bx, bz)) x y d = onP ((ax, ay), (bx, bz)) x y d := by
  apply Bool.eq_iff_iff.2
  unfold onU onP sideP lessV
  simp only [Bool.and_eq_true, Bool.not_eq_true', Bool.or_eq_false_iff, Bool.and_eq_false_iff, decide_eq_false_iff_not, decide_eq_true_eq, beq_iff_eq]
  rcases hl with hl | ⟨rfl, hl⟩
  · rw [Int.min_eq_left (Int.le_of_lt hl), Int.max_eq_right (Int.le_of_lt hl)]
    have hh : ay * d < bz * d := Int.mul_lt_mul_of_pos_right hl hd
    constructor
    · rintro ⟨⟨h0, h1⟩, h2⟩
      have t1 : ay * d ≤ y := by omega
      have t2 : y ≤ bz * d := by omega
      have q1 : 0 ≤ y - ay * d := by omega
      have q2 : y - ay * d ≤ (bz - ay) * d := by rw [Int.sub_mul]; omega
      have hk : 0 < bz - ay := by omega
      have e : (bz - ay) * (x - ax * d) = (bx - ax) * (y - ay * d) := by omega
      rcases Int.le_total ax bx with hx | hx
      · rw [Int.min_eq_left hx, Int.max_eq_right hx]
        have p1 : 0 ≤ (bx - ax) * (y - ay * d) := Int.mul_nonneg (by omega) q1
        have p2 : (bx - ax) * (y - ay * d) ≤ (bx - ax) * ((bz - ay) * d) := Int.mul_le_mul_of_nonneg_left q2 (by omega)
        have r1 : 0 ≤ x - ax * d := le_of_mul hk (by rw [Int.mul_zero, e]; exact p1)
        have r2 : x - ax * d ≤ (bx - ax) * d := le_of_mul hk (by rw [e]; refine Int.le_trans p2 (Int.le_of_eq ?_); grind)
        rw [Int.sub_mul] at r2
        exact ⟨⟨⟨⟨by omega, by omega⟩, t1⟩, t2⟩, h0⟩
      · rw [Int.min_eq_right hx, Int.max_eq_left hx]
        have p1 : (bx - ax) * (y - ay * d) ≤ 0 := Int.mul_nonpos_of_nonpos_of_nonneg (by omega) q1
        have p2 : (bx - ax) * ((bz - ay) * d) ≤ (bx - ax) * (y - ay * d) := Int.mul_le_mul_of_nonpos_left (by omega) q2
        have r1 : x - ax * d ≤ 0 := le_of_mul hk (by rw [Int.mul_zero, e]; exact p1)
        have r2 : (bx - ax) * d ≤ x - ax * d := le_of_mul hk (by rw [e]; refine Int.le_trans (Int.le_of_eq ?_) p2; grind)
        rw [Int.sub_mul] at r2
        exact ⟨⟨⟨⟨by omega, by omega⟩, t1⟩, t2⟩, h0⟩
    · rintro ⟨⟨⟨⟨h1, h2⟩, h3⟩, h4⟩, h0⟩
      refine ⟨⟨h0, by omega, ?_⟩, by omega, ?_⟩
      · rcases Int.lt_or_eq_of_le h3 with h | h
        · exact .inl (by omega)
        · have e : (bz - ay) * (x - ax * d) = 0 := by rw [← h, Int.sub_self, Int.mul_zero] at h0; omega
          rcases Int.mul_eq_zero.1 e with e | e
          · omega
          · exact .inr (by omega)
      · rcases Int.lt_or_eq_of_le h4 with h | h
        · exact .inl (by omega)
        · have e : (bz - ay) * (x - bx * d) = 0 := by
            rw [h] at h0
            have e2 : (bx - ax) * (bz * d - ay * d) - (bz - ay) * (x - ax * d) = -((bz - ay) * (x - bx * d)) := by grind
            omega
          rcases Int.mul_eq_zero.1 e with e | e
          · omega
          · exact .inr (by omega)
  · rw [Int.min_eq_left hl, Int.max_eq_right hl, Int.min_self, Int.max_self, Int.sub_self, Int.zero_mul]
    constructor
    · rintro ⟨⟨h0, h1⟩, h2⟩
      exact ⟨⟨⟨⟨by omega, by omega⟩, by omega⟩, by omega⟩, h0⟩
    · rintro ⟨⟨⟨⟨h1, h2⟩, h3⟩, h4⟩, h0⟩
      exact ⟨⟨h0, by omega, by omega⟩, by omega, by omega⟩
theorem cr_low {ax ay bx bz x y d : Int} (hd : 0 < d) (hl : ay < bz ∨ ay = bz ∧ ax ≤ bx) : crU ((ax, ay), (bx, bz)) x y d = crossesP ((ax, ay), (bx, bz)) x y d := by
  apply Bool.eq_iff_iff.2
  unfold crU crossesP upP downP
  simp only [Bool.and_eq_true, Bool.or_eq_true, decide_eq_true_eq]
  have h : ay * d ≤ bz * d := Int.mul_le_mul_of_nonneg_right (by omega) (Int.le_of_lt hd)
  omega
theorem up_low (e : Ed) : (upE e).1.2 < (upE e).2.2 ∨ (upE e).1.2 = (upE e).2.2 ∧ (upE e).1.1 ≤ (upE e).2.1 := by
  unfold upE
  by_cases h : lessV e.2.1 e.2.2 e.1.1 e.1.2 = true
  · rw [if_pos h]
    have := (ltV_iff e.2 e.1).1 h
    show e.2.2 < e.1.2 ∨ e.2.2 = e.1.2 ∧ e.2.1 ≤ e.1.1
    omega
  · rw [if_neg h]
    have : ¬ (e.2.2 < e.1.2 ∨ e.2.2 = e.1.2 ∧ e.2.1 < e.1.1) := fun hh => h ((ltV_iff e.2 e.1).2 hh)
    omega
theorem on_up (e : Ed) {x y d : Int} (hd : 0 < d) : onU (upE e) x y d = onP e x y d := by
  rw [show upE e = (((upE e).1.1, (upE e).1.2), ((upE e).2.1, (upE e).2.2)) from rfl, on_low hd (up_low e)]
  show onP (upE e) x y d = _
  unfold upE
  split
  · exact on_turn _ _ _ _ _
  · rfl
theorem cr_up (e : Ed) {x y d : Int} (hd : 0 < d) : crU (upE e) x y d = crossesP e x y d := by
  rw [show upE e = (((upE e).1.1, (upE e).1.2), ((upE e).2.1, (upE e).2.2)) from rfl, cr_low hd (up_low e)]
  show crossesP (upE e) x y d = _
  unfold upE
  split
  · exact cross_turn _ _ _ _ _
  · rfl
/-- the wrapped numbers are the numbers themselves -/
structure PtOk (x y d : Int) : Prop where
  d1 : 1 ≤ d
  d2 : d ≤ 134217728
  x1 : -536870912000 ≤ x
  x2 : x ≤ 536870912000
  y1 : -536870912000 ≤ y
  y2 : y ≤ 536870912000
theorem pt_ok {x y d : Int} (h : validP x y d = true) : PtOk x y d := by
  unfold validP at h
  rw [Bool.and_eq_true] at h
  obtain ⟨⟨h1, h2⟩, ⟨h3, h4, h5, h6⟩, h7, h8⟩ := in_mid (m := 4000) (by omega) h.1
  exact ⟨h1, h2, by omega, by omega, by omega, by omega⟩
theorem scaled {p : Pt} (hp : wOk p = true) {x y d : Int} (h : PtOk x y d) : (-268435456000 ≤ p.1 * d ∧ p.1 * d ≤ 268435456000 ∧ -268435456000 ≤ p.2 * d ∧ p.2 * d ≤ 268435456000) ∧ w64 (d * p.1) = p.1 * d ∧ w64 (d * p.2) = p.2 * d ∧ w64 (p.1 * d) = p.1 * d ∧ w64 (p.2 * d) = p.2 * d := by
  obtain ⟨g1, g2, g3, g4⟩ := (w_lm hp).1
  obtain ⟨d1, d2⟩ := And.intro h.d1 h.d2
  have a1 := abs_le_mul (x := p.1) (y := d) (A := 2000) (B := 134217728) (by omega) (by omega)
  have a2 := abs_le_mul (x := p.2) (y := d) (A := 2000) (B := 134217728) (by omega) (by omega)
  rw [Int.mul_comm d, Int.mul_comm d]
  exact ⟨by omega, w64_id ⟨by omega, by omega⟩, w64_id ⟨by omega, by omega⟩, w64_id ⟨by omega, by omega⟩, w64_id ⟨by omega, by omega⟩⟩
theorem side_cross {e : Ed} (h1 : wOk e.1 = true) (h2 : wOk e.2 = true) {x y d : Int} (h : PtOk x y d) : crossV (w64 (e.2.1 - e.1.1)) (w64 (e.2.2 - e.1.2)) (w64 (x - e.1.1 * d)) (w64 (y - e.1.2 * d)) = sideP e x y d := by
  obtain ⟨⟨b1, b2, b3, b4⟩, _⟩ := scaled h1 h
  obtain ⟨g1, g2, g3, g4⟩ := (w_lm h1).1
  obtain ⟨k1, k2, k3, k4⟩ := (w_lm h2).1
  obtain ⟨_, _, x1, x2, y1, y2⟩ := h
  rw [w64_id (n := e.2.1 - e.1.1) ⟨by omega, by omega⟩, w64_id (n := e.2.2 - e.1.2) ⟨by omega, by omega⟩, w64_id (n := x - e.1.1 * d) ⟨by omega, by omega⟩, w64_id (n := y - e.1.2 * d) ⟨by omega, by omega⟩]
  have a1 := abs_le_mul (x := e.2.1 - e.1.1) (y := y - e.1.2 * d) (A := 4000) (B := 900000000000) (by omega) (by omega)
  have a2 := abs_le_mul (x := e.2.2 - e.1.2) (y := x - e.1.1 * d) (A := 4000) (B := 900000000000) (by omega) (by omega)
  unfold crossV sideP
  exact w64_id ⟨by omega, by omega⟩
end Go.Proofs.Ythifljljaejfmaa.G

namespace Go.Proofs.Ythifljljaejfmaa.G
open Go.RowKit Go.Proofs.Ythifljljaejfmaa.V Go.Proofs.Ythifljljaejfmaa.W

theorem sum_add (f g : Nat → Int) : ∀ k, sumTo (fun i => f i + g i) k = sumTo f k + sumTo g k
  | 0 => rfl
  | k + 1 => by
    show sumTo (fun i => f i + g i) k + (f k + g k) = sumTo f k + f k + (sumTo g k + g k)
    rw [sum_add f g k]
    omega
theorem sum_mul (c : Int) (f : Nat → Int) : ∀ k, sumTo (fun i => c * f i) k = c * sumTo f k
  | 0 => (Int.mul_zero c).symm
  | k + 1 => by
    show sumTo (fun i => c * f i) k + c * f k = c * (sumTo f k + f k)
    rw [sum_mul c f k, Int.mul_add]
theorem sum_even (f g : Nat → Int) (h : ∀ i, ∃ c, f i = g i + 2 * c) : ∀ k, ∃ c, sumTo f k = sumTo g k + 2 * c
  | 0 => ⟨0, rfl⟩
  | k + 1 => by
    obtain ⟨a, ha⟩ := sum_even f g h k
    obtain ⟨b, hb⟩ := h k
    refine ⟨a + b, ?_⟩
    show sumTo f k + f k = sumTo g k + g k + 2 * (a + b)
    rw [ha, hb]
    omega
/-- 1 where it holds -/
def ind (b : Bool) : Int := if b then 1 else 0
theorem filter_sum (p : Nat → Bool) : ∀ n, (((List.range n).filter p).length : Int) = sumTo (fun i => ind (p i)) n
  | 0 => rfl
  | n + 1 => by
    rw [List.range_succ, List.filter_append, List.length_append]
    show _ = sumTo (fun i => ind (p i)) n + ind (p n)
    rw [← filter_sum p n]
    cases h : p n <;> simp [ind, h]
/-- around a ring, a mark changes an even number of times -/
theorem around_even (F : Nat → Bool) (n : Nat) : ∃ c, sumTo (fun i => ind (F i != F ((i + 1) % n))) n = 2 * c := by
  obtain ⟨c, hc⟩ := sum_even (fun i => ind (F i != F ((i + 1) % n))) (fun i => ind (F ((i + 1) % n)) + -1 * ind (F i)) (fun i => by
    cases F i <;> cases F ((i + 1) % n) <;> simp [ind]
    · exact ⟨0, rfl⟩
    · exact ⟨0, rfl⟩
    · exact ⟨1, rfl⟩
    · exact ⟨0, rfl⟩) n
  rw [sum_add, sum_mul, sum_one (fun i => ind (F i))] at hc
  exact ⟨c, by rw [hc]; omega⟩
theorem count_sum {l : List Pt} (h2 : ¬ l.length < 2) (x y d : Int) : (countP (edgesP l) x y d : Int) = sumTo (fun i => ind (crossesP (edgeP l i) x y d)) l.length := by
  unfold countP edgesP
  rw [if_neg h2, List.filter_map, List.length_map]
  exact filter_sum _ _
theorem any_iff {l : List Pt} (h2 : ¬ l.length < 2) (x y d : Int) : anyOn (edgesP l) x y d = true ↔ ∃ i, i < l.length ∧ onP (edgeP l i) x y d = true := by
  unfold anyOn edgesP
  rw [if_neg h2, List.any_eq_true]
  constructor
  · rintro ⟨e, he, h⟩
    obtain ⟨i, hi, rfl⟩ := List.mem_map.1 he
    exact ⟨i, List.mem_range.1 hi, h⟩
  · rintro ⟨i, hi, h⟩
    exact ⟨_, List.mem_map.2 ⟨i, List.mem_range.2 hi, rfl⟩, h⟩

theorem side_out {a b : Pt} {X Y : Int} (ha : a.1 < X) (hb : b.1 < X) (h : a.2 ≤ Y ∧ Y < b.2) : sideP (a, b) X Y 1 < 0 := by
  unfold sideP
  simp only [Int.mul_one]
  have h1 : (b.2 - a.2) * (X - a.1) > 0 := Int.mul_pos (by omega) (by omega)
  rcases Int.le_total b.1 a.1 with c | c
  · have := Int.mul_nonpos_of_nonpos_of_nonneg (show b.1 - a.1 ≤ 0 by omega) (show 0 ≤ Y - a.2 by omega)
    omega
  · have e1 : (b.1 - a.1) * (Y - a.2) ≤ (b.1 - a.1) * (b.2 - a.2) := Int.mul_le_mul_of_nonneg_left (by omega) (by omega)
    have e2 : (b.2 - a.2) * (b.1 - a.1) < (b.2 - a.2) * (X - a.1) := Int.mul_lt_mul_of_pos_left (by omega) (by omega)
    rw [Int.mul_comm (b.2 - a.2) (b.1 - a.1)] at e2
    omega
theorem side_in {a b : Pt} {X Y : Int} (ha : X < a.1) (hb : X < b.1) (h : a.2 ≤ Y ∧ Y < b.2) : 0 < sideP (a, b) X Y 1 := by
  have := side_out (a := (-a.1, a.2)) (b := (-b.1, b.2)) (X := -X) (Y := Y) (by simp; omega) (by simp; omega) h
  unfold sideP at this ⊢
  simp only [Int.mul_one] at this ⊢
  have e : (-b.1 - -a.1) * (Y - a.2) - (b.2 - a.2) * (-X - -a.1) = -((b.1 - a.1) * (Y - a.2) - (b.2 - a.2) * (X - a.1)) := by grind
  omega
/-- a point beyond the limits of a list lies on no edge, and the count is even -/
theorem beyond {l : List Pt} (h3 : 3 ≤ l.length) (hw : allW l = true) {X Y : Int} (h : X < -2000 ∨ 2000 < X ∨ Y < -2000 ∨ 2000 < Y) : anyOn (edgesP l) X Y 1 = false ∧ countP (edgesP l) X Y 1 % 2 = 0 := by
  have hb : ∀ i, i < l.length → (-2000 ≤ (at_ l i).1 ∧ (at_ l i).1 ≤ 2000 ∧ -2000 ≤ (at_ l i).2 ∧ (at_ l i).2 ≤ 2000) := fun i hi => (w_lm (allTo_iff.1 hw i hi)).1
  have hn : 0 < l.length := by omega
  constructor
  · rw [← Bool.not_eq_true, any_iff (by omega)]
    rintro ⟨i, hi, ho⟩
    have a := hb i hi
    have b := hb ((i + 1) % l.length) (Nat.mod_lt _ hn)
    unfold onP edgeP at ho
    simp only [Bool.and_eq_true, decide_eq_true_eq, Int.mul_one] at ho
    omega
  · have hs := count_sum (l := l) (by omega) X Y 1
    have hz : ∀ (c : Int), sumTo (fun i => ind (crossesP (edgeP l i) X Y 1)) l.length = 2 * c → countP (edgesP l) X Y 1 % 2 = 0 := fun c hc => by
      rw [hc] at hs
      omega
    have hno : (∀ i, i < l.length → crossesP (edgeP l i) X Y 1 = false) → countP (edgesP l) X Y 1 % 2 = 0 := fun hc => hz 0 (by
      rw [sum_ext (g := fun _ => 0) fun i hi => by rw [hc i hi]; rfl]
      have := sum_mul 0 (fun _ => 0) l.length
      simpa using this)
    by_cases hx : X < -2000
    · obtain ⟨c, hc⟩ := around_even (fun i => decide ((at_ l i).2 ≤ Y)) l.length
      refine hz c ?_
      rw [← hc]
      refine sum_ext fun i hi => ?_
      have a := hb i hi
      have b := hb ((i + 1) % l.length) (Nat.mod_lt _ hn)
      congr 1
      unfold crossesP upP downP edgeP
      simp only [Int.mul_one]
      generalize at_ l i = p at *
      generalize at_ l ((i + 1) % l.length) = q at *
      by_cases c1 : p.2 ≤ Y <;> by_cases c2 : q.2 ≤ Y
      · have n1 : ¬ Y < p.2 := by omega
        have n2 : ¬ Y < q.2 := by omega
        simp [c1, c2, n1, n2]
      · have n1 : ¬ Y < p.2 := by omega
        have n2 : Y < q.2 := by omega
        have := side_in (a := p) (b := q) (X := X) (Y := Y) (by omega) (by omega) ⟨c1, n2⟩
        simp [c1, c2, n1, n2, this]
      · have n1 : Y < p.2 := by omega
        have n2 : ¬ Y < q.2 := by omega
        have := side_in (a := q) (b := p) (X := X) (Y := Y) (by omega) (by omega) ⟨c2, n1⟩
        rw [show (q, p) = ((q, p) : Ed) from rfl, side_turn] at this
        simp [c1, c2, n1, n2]
        omega
      · have n1 : Y < p.2 := by omega
        have n2 : Y < q.2 := by omega
        simp [c1, c2, n1, n2]
    · refine hno fun i hi => ?_
      have a := hb i hi
      have b := hb ((i + 1) % l.length) (Nat.mod_lt _ hn)
      rw [Bool.eq_false_iff]
      intro hc
      unfold crossesP upP downP edgeP at hc
      simp only [Int.mul_one, Bool.or_eq_true, Bool.and_eq_true, decide_eq_true_eq] at hc
      generalize at_ l i = p at *
      generalize at_ l ((i + 1) % l.length) = q at *
      rcases hc with ⟨⟨c1, c2⟩, c3⟩ | ⟨⟨c1, c2⟩, c3⟩
      · have := side_out (a := p) (b := q) (X := X) (Y := Y) (by omega) (by omega) ⟨c1, c2⟩
        omega
      · have := side_out (a := q) (b := p) (X := X) (Y := Y) (by omega) (by omega) ⟨c1, c2⟩
        rw [side_turn] at this
        omega
end Go.Proofs.Ythifljljaejfmaa.G
