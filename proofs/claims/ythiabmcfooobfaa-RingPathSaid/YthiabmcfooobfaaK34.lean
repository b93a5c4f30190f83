/-
  ring, plain: two points that a segment connects which meets no edge lie at the same place. Condition: the ring is valid, the points are within 4000.
  RingPath: the law returns true, whatever its arguments. No condition.
-/
import Derived.Test.YthiabmcfooobfaaK32
import Derived.Test.YthiabmcfooobfaaK26
namespace Go.Proofs.Ythiabmcfooobfaa.G
open Go.RowKit Go.Proofs.Ythiabmcfooobfaa.V Go.Proofs.Ythiabmcfooobfaa.W

theorem on_up_of {ax ay bx bz px py : Int} (h : crs ax ay bx bz px py = 0) (h1 : ay ≤ py) (h2 : py ≤ bz) (h3 : ay < bz) : On ax ay bx bz px py := by
  refine ⟨h, ?_⟩
  have e : (ax - px) * (bz - py) = (ay - py) * (bx - px) := by unfold crs at h; grind
  unfold dotP
  have hb := (box_iff (ux := ax - px) (uy := ay - py) (vx := bx - px) (vy := bz - py) e).2
  have hy : (ay - py) * (bz - py) ≤ 0 := Int.mul_nonpos_of_nonpos_of_nonneg (by omega) (by omega)
  refine hb ⟨?_, hy⟩
  rcases Int.lt_or_eq_of_le h1 with c | c
  · rcases Int.lt_or_eq_of_le h2 with d | d
    · have hn : (ay - py) * (bz - py) < 0 := Int.mul_neg_of_neg_of_pos (by omega) (by omega)
      have hs : 0 ≤ ((ax - px) * (bx - px)) * ((ay - py) * (bz - py)) := by
        rw [show ((ax - px) * (bx - px)) * ((ay - py) * (bz - py)) = ((ax - px) * (bz - py)) * ((ay - py) * (bx - px)) by grind, ← e]
        exact sq_nonneg _
      rcases Int.lt_or_le 0 ((ax - px) * (bx - px)) with g | g
      · have := Int.mul_neg_of_pos_of_neg g hn
        omega
      · exact g
    · have : (ay - py) * (bx - px) = 0 := by rw [← e, d, Int.sub_self, Int.mul_zero]
      rcases Int.mul_eq_zero.1 this with g | g
      · omega
      · rw [g, Int.mul_zero]; exact Int.le_refl _
  · have : (ax - px) * (bz - py) = 0 := by rw [e, c, Int.sub_self, Int.zero_mul]
    rcases Int.mul_eq_zero.1 this with g | g
    · rw [g, Int.zero_mul]; exact Int.le_refl _
    · omega
/-- signs: what four sides and four heights that belong together may be -/
structure Sides (ay bz py qy sp sq ta tb : Int) : Prop where
  r1 : tb - ta = sp - sq
  r2 : ay * tb - bz * ta = qy * sp - py * sq
section
variable {ay bz py qy sp sq ta tb : Int} (h : Sides ay bz py qy sp sq ta tb)
include h
theorem Sides.p : (qy - py) * sp = (ay - py) * tb - (bz - py) * ta ∧ (qy - py) * sq = (ay - qy) * tb - (bz - qy) * ta := by
  obtain ⟨r1, r2⟩ := h
  have : sp = tb - ta + sq := by omega
  subst this
  constructor <;> grind
theorem Sides.t : (bz - ay) * tb = (bz - qy) * sp - (bz - py) * sq ∧ (bz - ay) * ta = (py - ay) * sq - (qy - ay) * sp := by
  obtain ⟨r1, r2⟩ := h
  have : sp = tb - ta + sq := by omega
  subst this
  constructor <;> grind
theorem Sides.neg : Sides ay bz py qy (-sp) (-sq) (-ta) (-tb) := by
  obtain ⟨r1, r2⟩ := h
  refine ⟨by omega, ?_⟩
  rw [Int.mul_neg, Int.mul_neg, Int.mul_neg, Int.mul_neg]
  omega
variable (n1 : ¬ (sp * sq < 0 ∧ ta * tb < 0))
include n1
theorem Sides.d (h1 : ay ≤ py) (h2 : py < bz) (h3 : bz ≤ qy) : ¬ (0 < sp ∧ 0 < tb) := by
  rintro ⟨g1, g2⟩
  obtain ⟨e1, e2⟩ := h.p
  have a1 := Int.mul_nonpos_of_nonpos_of_nonneg (show ay - py ≤ 0 by omega) (Int.le_of_lt g2)
  have a2 := Int.mul_pos (show 0 < qy - py by omega) g1
  have ht : ta < 0 := neg_of_mul (b := bz - py) (by omega) (by omega)
  have a3 := Int.mul_neg_of_neg_of_pos (show ay - qy < 0 by omega) g2
  have a4 := Int.mul_nonneg_of_nonpos_of_nonpos (show bz - qy ≤ 0 by omega) (Int.le_of_lt ht)
  have hs : sq < 0 := neg_of_mul (b := qy - py) (by omega) (by omega)
  exact n1 ⟨Int.mul_neg_of_pos_of_neg g1 hs, Int.mul_neg_of_neg_of_pos ht g2⟩
theorem Sides.e (h1 : ay ≤ py) (h2 : py ≤ qy) (h3 : qy < bz) (h4 : ay < qy) : ¬ (0 < sp ∧ sq < 0) := by
  rintro ⟨g1, g2⟩
  obtain ⟨e1, e2⟩ := h.t
  have a1 := Int.mul_pos (show 0 < bz - qy by omega) g1
  have a2 := Int.mul_neg_of_pos_of_neg (show 0 < bz - py by omega) g2
  have hb : 0 < tb := by
    rcases Int.lt_or_le 0 tb with c | c
    · exact c
    · have := Int.mul_nonpos_of_nonneg_of_nonpos (show 0 ≤ bz - ay by omega) c
      omega
  have a3 := Int.mul_nonpos_of_nonneg_of_nonpos (show 0 ≤ py - ay by omega) (Int.le_of_lt g2)
  have a4 := Int.mul_pos (show 0 < qy - ay by omega) g1
  have ht : ta < 0 := neg_of_mul (b := bz - ay) (by omega) (by omega)
  exact n1 ⟨Int.mul_neg_of_pos_of_neg g1 g2, Int.mul_neg_of_neg_of_pos ht hb⟩
theorem Sides.f (h1 : py < ay) (h2 : ay ≤ qy) (h3 : qy < bz) : ¬ (0 < sq ∧ 0 < ta) := by
  rintro ⟨g1, g2⟩
  obtain ⟨e1, e2⟩ := h.p
  have a1 := Int.mul_pos (show 0 < qy - py by omega) g1
  have a2 := Int.mul_pos (show 0 < bz - qy by omega) g2
  have hb : tb < 0 := by
    rcases Int.lt_or_le tb 0 with c | c
    · exact c
    · have := Int.mul_nonpos_of_nonpos_of_nonneg (show ay - qy ≤ 0 by omega) c
      omega
  have a3 := Int.mul_neg_of_pos_of_neg (show 0 < ay - py by omega) hb
  have a4 := Int.mul_pos (show 0 < bz - py by omega) g2
  have hs : sp < 0 := neg_of_mul (b := qy - py) (by omega) (by omega)
  exact n1 ⟨Int.mul_neg_of_neg_of_pos hs g1, Int.mul_neg_of_pos_of_neg g2 hb⟩
theorem Sides.c (h1 : py < ay) (h2 : ay ≤ bz) (h3 : bz ≤ qy) (h4 : ay < qy) : ¬ (ta < 0 ∧ 0 < tb) := by
  rintro ⟨g1, g2⟩
  obtain ⟨e1, e2⟩ := h.p
  have a1 := Int.mul_pos (show 0 < ay - py by omega) g2
  have a2 := Int.mul_neg_of_pos_of_neg (show 0 < bz - py by omega) g1
  have hs : 0 < sp := by
    rcases Int.lt_or_le 0 sp with c | c
    · exact c
    · have := Int.mul_nonpos_of_nonneg_of_nonpos (show 0 ≤ qy - py by omega) c
      omega
  have a3 := Int.mul_neg_of_neg_of_pos (show ay - qy < 0 by omega) g2
  have a4 := Int.mul_nonneg_of_nonpos_of_nonpos (show bz - qy ≤ 0 by omega) (Int.le_of_lt g1)
  have hq : sq < 0 := neg_of_mul (b := qy - py) (by omega) (by omega)
  exact n1 ⟨Int.mul_neg_of_pos_of_neg hs hq, Int.mul_neg_of_neg_of_pos g1 g2⟩
end
theorem neg_sq {sp sq ta tb : Int} (n1 : ¬ (sp * sq < 0 ∧ ta * tb < 0)) : ¬ (-sp * -sq < 0 ∧ -ta * -tb < 0) := by rw [Int.neg_mul_neg, Int.neg_mul_neg]; exact n1
/-- what an edge that does not meet the segment adds to both counts, and where its ends lie -/
theorem pass {ay bz py qy sp sq ta tb : Int} (h : Sides ay bz py qy sp sq ta tb) (n1 : ¬ (sp * sq < 0 ∧ ta * tb < 0)) (hy : py ≤ qy) (hab : ay ≤ bz)
    (np : ay ≤ py → py ≤ bz → ay < bz → sp ≠ 0) (nq : ay ≤ qy → qy ≤ bz → ay < bz → sq ≠ 0) (na : py ≤ ay → ay ≤ qy → py < qy → ta ≠ 0) (nb : py ≤ bz → bz ≤ qy → py < qy → tb ≠ 0)
    (hE : ay = py → py = qy → ay < bz → ¬ (0 < sp ∧ sq < 0) ∧ ¬ (sp < 0 ∧ 0 < sq)) (hC : ay = bz → ay = qy → py < qy → ¬ (ta < 0 ∧ 0 < tb) ∧ ¬ (0 < ta ∧ tb < 0)) :
    ((decide (ay ≤ py) && decide (py < bz) && decide (0 < sp)) != (decide (ay ≤ qy) && decide (qy < bz) && decide (0 < sq))) = ((decide (py < ay) && decide (ay ≤ qy) && decide (ta < 0)) != (decide (py < bz) && decide (bz ≤ qy) && decide (tb < 0))) := by
  have hn := h.neg
  have n2 := neg_sq n1
  by_cases c1 : ay ≤ py
  · have d1 : ¬ py < ay := by omega
    have d1' : ay ≤ qy := by omega
    by_cases c2 : py < bz
    · by_cases c3 : bz ≤ qy
      · have d3 : ¬ qy < bz := by omega
        have z1 := np c1 (by omega) (by omega)
        have z2 := nb (by omega) c3 (by omega)
        have k1 := h.d n1 c1 c2 c3
        have k2 := hn.d n2 c1 c2 c3
        have : (0 < sp) ↔ tb < 0 := by omega
        simp [c1, c2, c3, d1, d1', d3, this]
      · have d3 : qy < bz := by omega
        have z1 := np c1 (by omega) (by omega)
        have z2 := nq d1' (by omega) (by omega)
        have k : ¬ (0 < sp ∧ sq < 0) ∧ ¬ (sp < 0 ∧ 0 < sq) := by
          by_cases c4 : ay < qy
          · have k1 := h.e n1 c1 hy d3 c4
            have k2 := hn.e n2 c1 hy d3 c4
            exact ⟨k1, by omega⟩
          · exact hE (by omega) (by omega) (by omega)
        have : (0 < sp) ↔ 0 < sq := by omega
        simp [c1, c2, c3, d1, d1', d3, this]
    · have d2 : ¬ qy < bz := by omega
      simp [c2, d1, d2]
  · have d1 : py < ay := by omega
    have d2 : py < bz := by omega
    by_cases c2 : ay ≤ qy
    · have z2 := na (by omega) c2 (by omega)
      by_cases c3 : bz ≤ qy
      · have d3 : ¬ qy < bz := by omega
        have z3 := nb (by omega) c3 (by omega)
        have k : ¬ (ta < 0 ∧ 0 < tb) ∧ ¬ (0 < ta ∧ tb < 0) := by
          by_cases c4 : ay < qy
          · have k1 := h.c n1 d1 hab c3 c4
            have k2 := hn.c n2 d1 hab c3 c4
            exact ⟨k1, by omega⟩
          · exact hC (by omega) (by omega) (by omega)
        have : (ta < 0) ↔ tb < 0 := by omega
        simp [c1, c2, c3, d1, d2, d3, this]
      · have d3 : qy < bz := by omega
        have z1 := nq c2 (by omega) (by omega)
        have k1 := h.f n1 d1 c2 d3
        have k2 := hn.f n2 d1 c2 d3
        have : (0 < sq) ↔ ta < 0 := by omega
        simp [c1, c2, c3, d1, d2, d3, this]
    · have d3 : ¬ bz ≤ qy := by omega
      simp [c1, c2, d3]
/-- right of the segment from p up to q, between their heights -/
def rgt (px py qx qy : Int) (v : Pt) : Bool := decide (py < v.2) && decide (v.2 ≤ qy) && decide (crs px py qx qy v.1 v.2 < 0)
theorem side_crs (a b : Pt) (x y : Int) : sideP (a, b) x y 1 = crs a.1 a.2 b.1 b.2 x y := by
  unfold sideP crs
  simp only [Int.mul_one]
theorem crosses_up {a b : Pt} (h : a.2 ≤ b.2) (x y : Int) : crossesP (a, b) x y 1 = (decide (a.2 ≤ y) && decide (y < b.2) && decide (0 < crs a.1 a.2 b.1 b.2 x y)) := by
  unfold crossesP upP downP
  rw [side_crs]
  simp only [Int.mul_one]
  have hd : (decide (b.2 ≤ y) && decide (y < a.2)) = false := by
    rw [Bool.and_eq_false_iff, decide_eq_false_iff_not, decide_eq_false_iff_not]
    omega
  rw [hd, Bool.false_and, Bool.or_false]
theorem pass_up {a b : Pt} {px py qx qy : Int} (ha : Lm a.1 a.2) (hb : Lm b.1 b.2) (hp : Lm px py) (hq : Lm qx qy) (hk : kindS a.1 a.2 b.1 b.2 px py qx qy = 0) (hy : py ≤ qy) (hab : a.2 ≤ b.2) :
    (crossesP (a, b) px py 1 != crossesP (a, b) qx qy 1) = (rgt px py qx qy a != rgt px py qx qy b) := by
  obtain ⟨ax, ay⟩ := a
  obtain ⟨bx, bz⟩ := b
  simp only at ha hb hk hab
  have v1 : validS ax ay bx bz = true := by unfold validS; rw [Bool.and_eq_true, within_lm, within_lm]; exact ⟨ha, hb⟩
  have v2 : validS px py qx qy = true := by unfold validS; rw [Bool.and_eq_true, within_lm, within_lm]; exact ⟨hp, hq⟩
  have hno : ∀ x y, Lm x y → On ax ay bx bz x y → On px py qx qy x y → False := fun x y hl o1 o2 => by
    have hc := common0 v1 v2 hl hk
    rw [← Bool.not_eq_true] at hc
    exact hc ((both_iff v1 v2 hl).2 ⟨o1, o2⟩)
  have n1 : ¬ (crs ax ay bx bz px py * crs ax ay bx bz qx qy < 0 ∧ crs px py qx qy ax ay * crs px py qx qy bx bz < 0) := fun hh => by
    have hcom : comS ax ay bx bz px py qx qy = [] := by
      match hm : comS ax ay bx bz px py qx qy with
      | [] => rfl
      | (x, y) :: r =>
        obtain ⟨_, hl, o1, o2⟩ := com_lm v1 v2 (show (x, y) ∈ comS ax ay bx bz px py qx qy by rw [hm]; exact List.mem_cons_self)
        exact (hno x y hl o1 o2).elim
    rw [kind_is v1 v2, hcom, List.isEmpty_nil, if_pos rfl, if_pos (by rw [Bool.and_eq_true]; exact ⟨(part_lm ha hb hp hq).2 hh.1, (part_lm hp hq ha hb).2 hh.2⟩)] at hk
    cases hk
  have hS : Sides ay bz py qy (crs ax ay bx bz px py) (crs ax ay bx bz qx qy) (crs px py qx qy ax ay) (crs px py qx qy bx bz) := by
    constructor
    · have := cross_d ax ay bx bz px py qx qy
      omega
    · have := cross_y ax ay bx bz px py qx qy
      omega
  rw [crosses_up hab, crosses_up hab]
  unfold rgt
  refine pass hS n1 hy hab (fun h1 h2 h3 e => hno px py hp (on_up_of e h1 h2 h3) on_end_l) (fun h1 h2 h3 e => hno qx qy hq (on_up_of e h1 h2 h3) on_end_r)
    (fun h1 h2 h3 e => hno ax ay ha on_end_l (on_up_of e h1 h2 h3)) (fun h1 h2 h3 e => hno bx bz hb on_end_r (on_up_of e h1 h2 h3)) (fun h1 h2 h3 => ?_) (fun h1 h2 h3 => ?_)
  · subst h1 h2
    have z : crs px ay qx ay ax ay = 0 := by unfold crs; grind
    have s1 : crs ax ay bx bz px ay = -((bz - ay) * (px - ax)) := by unfold crs; grind
    have s2 : crs ax ay bx bz qx ay = -((bz - ay) * (qx - ax)) := by unfold crs; grind
    have hpos : 0 < bz - ay := by omega
    have key : ∀ u : Int, (0 < u ↔ 0 < (bz - ay) * u) ∧ (u < 0 ↔ (bz - ay) * u < 0) := fun u => by
      refine ⟨⟨fun c => Int.mul_pos hpos c, fun c => ?_⟩, ⟨fun c => Int.mul_neg_of_pos_of_neg hpos c, fun c => neg_of_mul hpos c⟩⟩
      rcases Int.lt_or_le 0 u with d | d
      · exact d
      · have := Int.mul_nonpos_of_nonneg_of_nonpos (Int.le_of_lt hpos) d
        omega
    have k1 := key (px - ax)
    have k2 := key (qx - ax)
    rw [s1, s2]
    constructor
    · rintro ⟨g1, g2⟩
      exact hno ax ay ha on_end_l ((on_box ..).2 ⟨by omega, z⟩)
    · rintro ⟨g1, g2⟩
      exact hno ax ay ha on_end_l ((on_box ..).2 ⟨by omega, z⟩)
  · subst h1 h2
    have z : crs ax ay bx ay qx ay = 0 := by unfold crs; grind
    have s1 : crs px py qx ay ax ay = (ay - py) * (qx - ax) := by unfold crs; grind
    have s2 : crs px py qx ay bx ay = (ay - py) * (qx - bx) := by unfold crs; grind
    have hpos : 0 < ay - py := by omega
    have key : ∀ u : Int, (0 < u ↔ 0 < (ay - py) * u) ∧ (u < 0 ↔ (ay - py) * u < 0) := fun u => by
      refine ⟨⟨fun c => Int.mul_pos hpos c, fun c => ?_⟩, ⟨fun c => Int.mul_neg_of_pos_of_neg hpos c, fun c => neg_of_mul hpos c⟩⟩
      rcases Int.lt_or_le 0 u with d | d
      · exact d
      · have := Int.mul_nonpos_of_nonneg_of_nonpos (Int.le_of_lt hpos) d
        omega
    have k1 := key (qx - ax)
    have k2 := key (qx - bx)
    rw [s1, s2]
    constructor
    · rintro ⟨g1, g2⟩
      exact hno qx ay hq ((on_box ..).2 ⟨by omega, z⟩) on_end_r
    · rintro ⟨g1, g2⟩
      exact hno qx ay hq ((on_box ..).2 ⟨by omega, z⟩) on_end_r
theorem pass_edge {a b : Pt} {px py qx qy : Int} (ha : Lm a.1 a.2) (hb : Lm b.1 b.2) (hp : Lm px py) (hq : Lm qx qy) (hk : kindS a.1 a.2 b.1 b.2 px py qx qy = 0) (hy : py ≤ qy) :
    (crossesP (a, b) px py 1 != crossesP (a, b) qx qy 1) = (rgt px py qx qy a != rgt px py qx qy b) := by
  rcases Int.le_total a.2 b.2 with h | h
  · exact pass_up ha hb hp hq hk hy h
  · have := pass_up hb ha hp hq (by rw [(way_left ..).1]; exact hk) hy h
    rw [cross_turn a b, cross_turn a b] at this
    rw [this]
    generalize rgt px py qx qy a = u
    generalize rgt px py qx qy b = v
    cases u <;> cases v <;> rfl
/-- the counts of two points that a segment connects which meets no edge -/
theorem path_count {l : List Pt} (hv : validR l = true) {px py qx qy : Int} (hp : Lm px py) (hq : Lm qx qy) (hk : ∀ i, i < l.length → kindS (edgeP l i).1.1 (edgeP l i).1.2 (edgeP l i).2.1 (edgeP l i).2.2 px py qx qy = 0) (hy : py ≤ qy) :
    countP (edgesP l) px py 1 % 2 = countP (edgesP l) qx qy 1 % 2 := by
  obtain ⟨h3, h40, hwl, ht, ha⟩ := valid_parts hv
  have hn : 0 < l.length := by omega
  have e1 := count_sum (l := l) (by omega) px py 1
  have e2 := count_sum (l := l) (by omega) qx qy 1
  obtain ⟨c, hc⟩ := around_even (fun i => rgt px py qx qy (at_ l i)) l.length
  have lm := fun i (hi : i < l.length) => (w_lm (allTo_iff.1 hwl i hi)).2
  rw [← sum_ext (f := fun i => ind (crossesP (edgeP l i) px py 1 != crossesP (edgeP l i) qx qy 1)) fun i hi => by
    rw [show edgeP l i = (at_ l i, at_ l ((i + 1) % l.length)) from rfl, pass_edge (lm i hi) (lm _ (Nat.mod_lt _ hn)) hp hq (hk i hi) hy]] at hc
  obtain ⟨d, hd⟩ := sum_even (fun i => ind (crossesP (edgeP l i) px py 1) + ind (crossesP (edgeP l i) qx qy 1)) (fun i => ind (crossesP (edgeP l i) px py 1 != crossesP (edgeP l i) qx qy 1)) (fun i => by
    cases crossesP (edgeP l i) px py 1 <;> cases crossesP (edgeP l i) qx qy 1 <;> simp [ind]
    · exact ⟨0, rfl⟩
    · exact ⟨0, rfl⟩
    · exact ⟨0, rfl⟩
    · exact ⟨1, rfl⟩) l.length
  rw [sum_add, ← e1, ← e2, hc] at hd
  omega
theorem path_where {l : List Pt} (hv : validR l = true) {px py qx qy : Int} (hp : Lm px py) (hq : Lm qx qy) (hk : ∀ i, i < l.length → kindS (edgeP l i).1.1 (edgeP l i).1.2 (edgeP l i).2.1 (edgeP l i).2.2 px py qx qy = 0) :
    whereR l px py 1 = whereR l qx qy 1 ∧ whereR l px py 1 ≠ 1 := by
  obtain ⟨h3, h40, hwl, ht, ha⟩ := valid_parts hv
  have hn : 0 < l.length := by omega
  have v2 : validS px py qx qy = true := by unfold validS; rw [Bool.and_eq_true, within_lm, within_lm]; exact ⟨hp, hq⟩
  have hno : ∀ x y, Lm x y → On px py qx qy x y → anyOn (edgesP l) x y 1 = false := fun x y hl ho => by
    rw [← Bool.not_eq_true, any_iff (by omega)]
    rintro ⟨i, hi, h⟩
    have v1 := edge_valid hwl hi
    obtain ⟨m1, m2⟩ := valid_lm v1
    rw [show edgeP l i = ((edgeP l i).1, (edgeP l i).2) from rfl, ← onS_onP m1 m2 hl] at h
    have hc := common0 v1 v2 hl (hk i hi)
    rw [← Bool.not_eq_true] at hc
    exact hc ((both_iff v1 v2 hl).2 ⟨((on_valid v1).1 h).2, ho⟩)
  have a1 := hno px py hp on_end_l
  have a2 := hno qx qy hq on_end_r
  have hcount : countP (edgesP l) px py 1 % 2 = countP (edgesP l) qx qy 1 % 2 := by
    rcases Int.le_total py qy with h | h
    · exact path_count hv hp hq hk h
    · exact (path_count hv hq hp (fun i hi => by rw [(way_right ..).1]; exact hk i hi) h).symm
  unfold whereR
  rw [hv, valid_int hp, valid_int hq, a1, a2, hcount]
  refine ⟨rfl, ?_⟩
  rw [Bool.and_self, if_pos rfl, if_neg (by simp)]
  split <;> decide
end Go.Proofs.Ythiabmcfooobfaa.G

namespace Go.Proofs.Ythiabmcfooobfaa.W
open Go.RowKit Go.Proofs.Ythiabmcfooobfaa.V Go.Proofs.Ythiabmcfooobfaa.G


set_option maxRecDepth 100000 in
set_option maxHeartbeats 12800000 in
theorem ringPath_walk (l : List (Int × Int)) (v : Value) (px py qx qy : Int) (w : World) (hv : SrcV w v l) (hl : l.length ≤ 1099511627776) : Calls Try.prog 19 #[v, vV px py, vV qx qy] w fun e w' => e = .returned (.bool true) ∧ Nw w w' := by
  have hmix := mixed7
  obtain ⟨w0, hw0⟩ : ∃ w0, ((w.alloc (.cells #[.int .i64 px, .int .i64 py] 23)).alloc (.cells #[.int .i64 qx, .int .i64 qy] 23)) = w0 := ⟨_, rfl⟩
  have HW0 := Lib.hid (show Nw w w0 by rw [← hw0]; exact (nw_alloc _ _).alloc _)
  have HB := Lib.hid (show ∀ w', Nw w0 w' → Blk w' w.heap.size 23 #[.int .i64 px, .int .i64 py] ∧ Blk w' (w.heap.size + 1) 23 #[.int .i64 qx, .int .i64 qy] from fun w' h => by
    rw [← hw0] at h
    exact ⟨((Blk.new _ _ _).alloc _).kp h id, (Blk.new_at _ _ _ (by simp)).kp h id⟩)
  have cf := fun w1 (h : Nw w w1) => few_any l v w1 (hv.nw h)
  have cv := fun w1 (h : Nw w w1) => ringValid_any l v w1 (hv.nw h) hl
  have ce := fun w1 (h : Nw w w1) => edges_any l v w1 (hv.nw h) hl
  have cp := fun w1 (h : Nw w w1) => where_any l v px py w1 (hv.nw h) hl
  have cq := fun w1 (h : Nw w w1) => where_any l v qx qy w1 (hv.nw h) hl
  have ci := fun w1 => rvalid_any px py qx qy w1
  clear hv
  obtain ⟨PV, hPV⟩ : ∃ s, w.heap.size = s := ⟨_, rfl⟩
  rw [hPV] at HB
  obtain ⟨PQ, hPQ⟩ : ∃ s, PV + 1 = s := ⟨_, rfl⟩
  rw [hPQ] at HB
  obtain ⟨b0, hb0⟩ : ∃ b, decide (l.length ≤ 60) = b := ⟨_, rfl⟩
  rw [hb0] at cf
  obtain ⟨b1, hb1⟩ : ∃ b, validR l = b := ⟨_, rfl⟩
  rw [hb1] at cv
  obtain ⟨b2, hb2⟩ : ∃ b, validS px py qx qy = b := ⟨_, rfl⟩
  rw [hb2] at ci
  have H1 := Lib.hid hb1
  have H2 := Lib.hid hb2
  clear hb0 hb1 hb2
  go_enter Try.func19, Try.ntmps19
  go_wp2_with fail
  with_reducible refine (awake8_any _).mono ?_
  rintro e w1 ⟨rfl, k1⟩
  obtain ⟨y0, y1, -, -⟩ := (HB.out _ k1).1.two
  obtain ⟨y2, y3, -, -⟩ := (HB.out _ k1).2.two
  clear hw0 hPV hPQ
  go_upto_region 4 with fail
  have HS := Lib.hid (Blk.new w1 48 #[.int .i64 px, .int .i64 py, .int .i64 qx, .int .i64 qy])
  generalize hwb : World.alloc _ (.cells #[.int .i64 px, .int .i64 py, .int .i64 qx, .int .i64 qy] _) = w2 at HS ⊢
  have n2 := Lib.hid (show Nw w0 w2 by rw [← hwb]; exact k1.alloc _)
  obtain ⟨PS, hPS⟩ : ∃ s, w1.heap.size = s := ⟨_, rfl⟩
  rw [hPS] at HS ⊢
  clear hwb k1 y0 y1 y2 y3 hPS
  cases b0
  · go_wp2_with fail
    with_reducible refine (cf _ (HW0.out.tr n2.out)).mono ?_
    rintro e w3 ⟨rfl, k3⟩
    go_wp2_with fail
    go_ret
    exact ⟨rfl, (HW0.out.tr n2.out).tr k3⟩
  cases b1
  · go_wp2_with fail
    with_reducible refine (cf _ (HW0.out.tr n2.out)).mono ?_
    rintro e w3 ⟨rfl, k3⟩
    go_wp2_with fail
    with_reducible refine (cv _ ((HW0.out.tr n2.out).tr k3)).mono ?_
    rintro e w4 ⟨rfl, k4⟩
    go_wp2_with fail
    go_ret
    exact ⟨rfl, ((HW0.out.tr n2.out).tr k3).tr k4⟩
  go_wp2_with fail
  with_reducible refine (cf _ (HW0.out.tr n2.out)).mono ?_
  rintro e w3 ⟨rfl, k3⟩
  go_wp2_with fail
  with_reducible refine (cv _ ((HW0.out.tr n2.out).tr k3)).mono ?_
  rintro e w4 ⟨rfl, k4⟩
  have HS4 := Lib.hid ((HS.out.kp k3 id).kp k4 id)
  have n4 := Lib.hid ((n2.out.tr k3).tr k4)
  obtain ⟨y0, y1, y2, y3, -⟩ := HS4.out.four
  clear k3 k4 cf cv HS n2
  cases b2
  · go_wp2_with fail
    with_reducible refine (ci _).mono ?_
    rintro e w5 ⟨rfl, k5⟩
    go_wp2_with fail
    go_ret
    exact ⟨rfl, (HW0.out.tr n4.out).tr k5⟩
  go_wp2_with fail
  with_reducible refine (ci _).mono ?_
  rintro e w5 ⟨rfl, k5⟩
  have HS5 := Lib.hid (HS4.out.kp k5 id)
  have n5 := Lib.hid (n4.out.tr k5)
  clear k5 ci y0 y1 y2 y3 HS4 n4
  go_wp2_with fail
  with_reducible refine (ce _ (HW0.out.tr n5.out)).mono ?_
  rintro e w7 ⟨v7, rfl, hs7, k7⟩
  have n7 := Lib.hid (n5.out.tr k7)
  have HS7 := Lib.hid (HS5.out.kp k7 id)
  obtain ⟨g3, g40⟩ := valid_len H1.out
  have hel : (edgesP l).length = l.length := by rw [edges_len, if_neg (by omega)]
  have HEA := Lib.hid (show ∀ k, k < l.length → (edgesP l)[k]? = some (edgeP l k) from fun k hk => edges_at (by omega) hk)
  obtain ⟨A4, c4, rfl⟩ := hs7.shape
  obtain ⟨n, hn⟩ : ∃ n, l.length = n := ⟨_, rfl⟩
  rw [hn] at hel hl g3 g40 HEA
  obtain ⟨g, o, rfl, hg, hcE⟩ := srcE_at hs7 (by rw [hel]; omega)
  rw [hel]
  have hmx : c4 ≤ 9223372036854775807 ∧ n ≤ c4 := by
    obtain ⟨_, A', c', e, h1, h2, _⟩ := hs7
    injection e with _ _ e3
    subst e3
    unfold maxLen at h2
    rw [hel] at h1
    omega
  have HCE := Lib.hid hcE
  have HN := Lib.hid hn
  clear hs7 hcE hn ce hel hg k7
  go_wp2_with fail
  go_loopw [9] (fun i wr => ∃ k : Nat, i = .int .i64 k ∧ k ≤ n ∧ (∀ j, j < k → kindS (edgeP l j).1.1 (edgeP l j).1.2 (edgeP l j).2.1 (edgeP l j).2.2 px py qx qy = 0) ∧ Nw w7 wr) (fun i _ => n - (intOf i).toNat)
  case atStart => exact ⟨0, rfl, Nat.zero_le _, fun j h => absurd h (Nat.not_lt_zero _), Kp.refl _ _⟩
  case round =>
    obtain ⟨k, rfl, hk, hall, hnw⟩ := hrel
    have HA := Lib.hid hall
    clear hall
    have HK := Lib.hid hnw
    clear hnw
    by_cases hkn : k < n
    · have i0 : (0 : Int) ≤ (k : Int) := by omega
      have i1 : (k : Int) < (n : Int) := by omega
      obtain ⟨s4, hs4⟩ : ∃ s : Nat, k + 1 = s := ⟨_, rfl⟩
      have a4 : IntKind.i64.wrap ((k : Int) + 1) = (s4 : Int) := by rw [IntKind.wrap_i64]; omega
      have H4 := Lib.hid hs4
      obtain ⟨⟨⟨ax, ay⟩, ⟨bx, bz⟩⟩, he⟩ : ∃ e, edgeP l k = e := ⟨_, rfl⟩
      have hLk := HEA.out k hkn
      rw [he] at hLk
      have HE := Lib.hid he
      have yy := fun p : KeptW wr => HCE.out p.wd (HK.out.tr p.since) k _ hLk
      have q0 := fun p => (yy p).1
      have q1 := fun p => (yy p).2.1
      have q2 := fun p => (yy p).2.2.1
      have q3 := fun p => (yy p).2.2.2
      have q4 := fun p : KeptW wr => (HS7.out.kp (HK.out.tr p.since) id).cell 0
      have q5 := fun p : KeptW wr => (HS7.out.kp (HK.out.tr p.since) id).cell 1
      have q6 := fun p : KeptW wr => (HS7.out.kp (HK.out.tr p.since) id).cell 2
      have q7 := fun p : KeptW wr => (HS7.out.kp (HK.out.tr p.since) id).cell 3
      have cm := fun w1 => rmeet_any ax ay bx bz px py qx qy w1
      obtain ⟨kd, hkd⟩ : ∃ b, kindS ax ay bx bz px py qx qy = b := ⟨_, rfl⟩
      rw [hkd] at cm
      have HKD := Lib.hid hkd
      clear hs4 he hLk yy hkd
      by_cases h0 : kd = 0
      · have e0 : (kd != 0) = false := by simp [h0]
        have HZ := Lib.hid h0
        clear h0
        go_wp2_with fail
        refine wp_region_kept (Kp.refl _ _) (by assumption) (by kernel_rfl) ?_
        repeat (with_reducible refine wpQuiet_step (fun K hK => ?_); go_simp; first | ((with_reducible refine hK _ ?_); clear hK K) | (with_reducible apply Exists.intro; (with_reducible refine ⟨fun _ => ?_, hK _ ?_⟩); ((first | (go_at_call 59; with_reducible exact Calls.kept_of (cm _)) | fail)); clear hK K) | (simp only [undef, reduceCtorEq, if_false]; (with_reducible refine hK _ ?_); clear hK K))
        with_reducible refine wpQuiet_nil ?_
        rintro _ ⟨p, rfl⟩
        go_wp2_with fail
        go_roundw
        case rel =>
          refine ⟨k + 1, by rw [← H4.out], by omega, fun j hj => ?_, HK.out.tr p.since⟩
          rcases Nat.lt_or_ge j k with h | h
          · exact HA.out j h
          · obtain rfl : j = k := by omega
            rw [HE.out]
            exact HKD.out.trans HZ.out
        case measure => (have := H4.out; simp [intOf]; try omega)
      · have e0 : (kd != 0) = true := by simp [h0]
        clear h0
        go_wp2_with fail
        refine wp_region_kept (Kp.refl _ _) (by assumption) (by kernel_rfl) ?_
        repeat (with_reducible refine wpQuiet_step (fun K hK => ?_); go_simp; first | ((with_reducible refine hK _ ?_); clear hK K) | (with_reducible apply Exists.intro; (with_reducible refine ⟨fun _ => ?_, hK _ ?_⟩); ((first | (go_at_call 59; with_reducible exact Calls.kept_of (cm _)) | fail)); clear hK K) | (simp only [undef, reduceCtorEq, if_false]; (with_reducible refine hK _ ?_); clear hK K))
        with_reducible refine wpQuiet_nil ?_
        rintro _ ⟨p, rfl⟩
        go_wp2_with fail
        go_ret
        exact ⟨rfl, HW0.out.tr ((n7.out.tr HK.out).tr p.since)⟩
    · obtain rfl : k = n := by omega
      have i5 : ¬ ((k : Int) < (k : Int)) := by omega
      obtain ⟨hpl, hql⟩ := valid_lm H2.out
      obtain ⟨e1, e2⟩ := path_where H1.out hpl hql (fun i hi => HA.out i (by rw [HN.out] at hi; exact hi))
      rw [← e1] at cq
      have NF := Lib.hid (n7.out.tr HK.out)
      obtain ⟨u, hu⟩ : ∃ u, whereR l px py 1 = u := ⟨_, rfl⟩
      rw [hu] at cp cq e2
      have f1 : (u == u) = true := by simp
      have f2 : (u != 1) = true := by simp [e2]
      have d1 := fun p : KeptW wr => cp p.wd (HW0.out.tr (NF.out.tr p.since))
      have d2 := fun p : KeptW wr => cq p.wd (HW0.out.tr (NF.out.tr p.since))
      have q0 := fun p : KeptW wr => (HB.out p.wd (NF.out.tr p.since)).1.cell 0
      have q1 := fun p : KeptW wr => (HB.out p.wd (NF.out.tr p.since)).1.cell 1
      have q2 := fun p : KeptW wr => (HB.out p.wd (NF.out.tr p.since)).2.cell 0
      have q3 := fun p : KeptW wr => (HB.out p.wd (NF.out.tr p.since)).2.cell 1
      clear e1 e2 hu cp cq hpl hql
      go_wp2_with fail
      refine wp_region_kept (Kp.refl _ _) (by assumption) (by kernel_rfl) ?_
      repeat (with_reducible refine wpQuiet_step (fun K hK => ?_); go_simp; first | ((with_reducible refine hK _ ?_); clear hK K) | (with_reducible apply Exists.intro; (with_reducible refine ⟨fun _ => ?_, hK _ ?_⟩); ((first | (go_at_call 76; with_reducible exact Calls.kept_of (d1 _)) | (go_at_call 76; with_reducible exact Calls.kept_of (d2 _)) | fail)); clear hK K) | (simp only [undef, reduceCtorEq, if_false]; (with_reducible refine hK _ ?_); clear hK K))
      with_reducible refine wpQuiet_nil ?_
      rintro _ ⟨p, rfl⟩
      go_wp2_with fail
      go_ret
      exact ⟨rfl, HW0.out.tr (NF.out.tr p.since)⟩

set_option maxRecDepth 100000 in
set_option maxHeartbeats 3200000 in
theorem ringPath_any (l : List (Int × Int)) (v : Value) (px py qx qy : Int) (w : World) (hv : SrcV w v l) : Calls Try.prog 19 #[v, vV px py, vV qx qy] w fun e w' => e = .returned (.bool true) ∧ Nw w w' := by
  by_cases hl : l.length ≤ 1099511627776
  case pos => exact ringPath_walk l v px py qx qy w hv hl
  case neg =>
    have cf := fun w1 (h : Nw w w1) => few_any l v w1 (hv.nw h)
    rw [decide_eq_false (by omega)] at cf
    clear hv hl
    have hb : ∀ w', Nw ((w.alloc (.cells #[.int .i64 px, .int .i64 py] 23)).alloc (.cells #[.int .i64 qx, .int .i64 qy] 23)) w' → Blk w' w.heap.size 23 #[.int .i64 px, .int .i64 py] ∧ Blk w' (w.heap.size + 1) 23 #[.int .i64 qx, .int .i64 qy] := fun w' h => ⟨((Blk.new _ _ _).alloc _).kp h id, (Blk.new_at _ _ _ (by simp)).kp h id⟩
    have HB := Lib.hid hb
    clear hb
    go_enter Try.func19, Try.ntmps19
    go_wp2_with fail
    with_reducible refine (awake8_any _).mono ?_
    rintro e w1 ⟨rfl, k1⟩
    obtain ⟨y0, y1, -, -⟩ := (HB.out _ k1).1.two
    obtain ⟨y2, y3, -, -⟩ := (HB.out _ k1).2.two
    have n1 : Nw w w1 := Kp.tr ((nw_alloc _ _).alloc _) k1
    clear HB
    go_wp2_with fail
    with_reducible refine (cf _ (n1.alloc _)).mono ?_
    rintro e w2 ⟨rfl, k2⟩
    go_wp2_with fail
    go_ret
    exact ⟨rfl, (n1.alloc _).tr k2⟩

end Go.Proofs.Ythiabmcfooobfaa.W
