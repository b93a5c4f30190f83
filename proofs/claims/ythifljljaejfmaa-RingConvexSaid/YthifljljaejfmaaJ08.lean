/-
  seg, plain: points on segments, the order on a line, what two segments have in common; integers only, no program. Condition: the coordinates are within 4000 where it says so.
  seg, plain: the crossing of two segments, points in lowest terms; integers only, no program. Conditions stand at each lemma.
-/
import Derived.Test.YthifljljaejfmaaJ02
namespace Go.Proofs.Ythifljljaejfmaa.G

/-- the exact cross product of b - a and c - a -/
def crs (ax ay bx bz cx cy : Int) : Int := (bx - ax) * (cy - ay) - (bz - ay) * (cx - ax)
def dotP (ax ay bx bz px py : Int) : Int := (ax - px) * (bx - px) + (ay - py) * (bz - py)
/-- on the segment: on its line, and the ends in opposite directions -/
def On (ax ay bx bz px py : Int) : Prop := crs ax ay bx bz px py = 0 ∧ dotP ax ay bx bz px py ≤ 0
def Lm (x y : Int) : Prop := -4000 ≤ x ∧ x ≤ 4000 ∧ -4000 ≤ y ∧ y ≤ 4000
def key (x y : Int) : Int := y * 16384 + x
/-- between in the order -/
def Btw (ax ay bx bz px py : Int) : Prop := key ax ay ≤ key px py ∧ key px py ≤ key bx bz ∨ key bx bz ≤ key px py ∧ key px py ≤ key ax ay

theorem sq_nonneg (a : Int) : 0 ≤ a * a := by
  rcases Int.le_total 0 a with h | h
  · exact Int.mul_nonneg h h
  · exact Int.mul_nonneg_of_nonpos_of_nonpos h h
theorem sq_pos {a : Int} (h : a ≠ 0) : 0 < a * a := by
  rcases Int.lt_or_gt_of_ne h with h | h
  · exact Int.mul_pos_of_neg_of_neg h h
  · exact Int.mul_pos h h
theorem sum_pos {x y : Int} (h : ¬ (x = 0 ∧ y = 0)) : 0 < x * x + y * y := by
  by_cases hx : x = 0
  · have hy : y ≠ 0 := fun e => h ⟨hx, e⟩
    have := sq_pos hy
    have := sq_nonneg x
    omega
  · have := sq_pos hx
    have := sq_nonneg y
    omega
theorem zero_of_mul {a b : Int} (h : a * b = 0) (hb : b ≠ 0) : a = 0 := (Int.mul_eq_zero.1 h).resolve_right hb
theorem nonpos_of_mul {a b : Int} (hb : 0 < b) (h : b * a ≤ 0) : a ≤ 0 := by
  rcases Int.lt_or_le 0 a with g | g
  · have := Int.mul_pos hb g
    omega
  · exact g
theorem neg_of_mul {a b : Int} (hb : 0 < b) (h : b * a < 0) : a < 0 := by
  rcases Int.lt_or_le a 0 with g | g
  · exact g
  · have := Int.mul_nonneg (Int.le_of_lt hb) g
    omega

/-- the box, on a line -/
theorem box_iff {ux uy vx vy : Int} (h : ux * vy = uy * vx) : ux * vx + uy * vy ≤ 0 ↔ ux * vx ≤ 0 ∧ uy * vy ≤ 0 := by
  constructor
  · intro hd
    have hp : (ux * vx) * (uy * vy) = (ux * vy) * (ux * vy) := by
      have : (ux * vx) * (uy * vy) = (ux * vy) * (uy * vx) := by grind
      rw [this, ← h]
    have hn := sq_nonneg (ux * vy)
    rw [← hp] at hn
    generalize ux * vx = A at *
    generalize uy * vy = B at *
    constructor
    · rcases Int.lt_or_le 0 A with g | g
      · have : B < 0 := by omega
        have := Int.mul_neg_of_pos_of_neg g this
        omega
      · exact g
    · rcases Int.lt_or_le 0 B with g | g
      · have : A < 0 := by omega
        have := Int.mul_neg_of_neg_of_pos this g
        omega
      · exact g
  · rintro ⟨h1, h2⟩
    omega
theorem side_iff (a b p : Int) : (a - p) * (b - p) ≤ 0 ↔ min a b ≤ p ∧ p ≤ max a b := by
  constructor
  · intro h
    rcases Int.lt_or_le 0 (a - p) with g | g <;> rcases Int.lt_or_le 0 (b - p) with k | k
    · have := Int.mul_pos g k
      omega
    · omega
    · omega
    · by_cases e : a - p = 0
      · omega
      · by_cases e' : b - p = 0
        · omega
        · have := Int.mul_pos_of_neg_of_neg (show a - p < 0 by omega) (show b - p < 0 by omega)
          omega
  · rintro ⟨h1, h2⟩
    rcases Int.le_total a b with g | g
    · exact Int.mul_nonpos_of_nonpos_of_nonneg (by omega) (by omega)
    · exact Int.mul_nonpos_of_nonneg_of_nonpos (by omega) (by omega)
theorem on_box (ax ay bx bz px py : Int) : On ax ay bx bz px py ↔ (min ax bx ≤ px ∧ px ≤ max ax bx ∧ min ay bz ≤ py ∧ py ≤ max ay bz) ∧ crs ax ay bx bz px py = 0 := by
  unfold On dotP
  constructor
  · rintro ⟨h1, h2⟩
    have hp : (ax - px) * (bz - py) = (ay - py) * (bx - px) := by unfold crs at h1; grind
    obtain ⟨h3, h4⟩ := (box_iff hp).1 h2
    have := (side_iff _ _ _).1 h3
    have := (side_iff _ _ _).1 h4
    exact ⟨⟨by omega, by omega, by omega, by omega⟩, h1⟩
  · rintro ⟨⟨h1, h2, h3, h4⟩, h5⟩
    have hp : (ax - px) * (bz - py) = (ay - py) * (bx - px) := by unfold crs at h5; grind
    exact ⟨h5, (box_iff hp).2 ⟨(side_iff _ _ _).2 ⟨h1, h2⟩, (side_iff _ _ _).2 ⟨h3, h4⟩⟩⟩

theorem key_inj {x y z t : Int} (h : Lm x y) (g : Lm z t) (e : key x y = key z t) : x = z ∧ y = t := by
  unfold Lm key at *
  omega
theorem key_lt {x y z t : Int} (h : Lm x y) (g : Lm z t) : key x y < key z t ↔ y < t ∨ y = t ∧ x < z := by
  unfold Lm key at *
  omega
theorem between (a b p : Int) : (a - p) * (b - p) ≤ 0 ↔ a ≤ p ∧ p ≤ b ∨ b ≤ p ∧ p ≤ a := by
  rw [side_iff]
  omega
theorem on_btw {ax ay bx bz px py : Int} (ha : Lm ax ay) (hp : Lm px py) : On ax ay bx bz px py ↔ crs ax ay bx bz px py = 0 ∧ Btw ax ay bx bz px py := by
  unfold On Btw
  rw [← between]
  refine and_congr_right fun h => ?_
  have hx : (ax - px) * (bz - py) = (ay - py) * (bx - px) := by unfold crs at h; grind
  have hk : key ax ay - key px py = 16384 * (ay - py) + (ax - px) := by unfold key; omega
  have hl : key bx bz - key px py = 16384 * (bz - py) + (bx - px) := by unfold key; omega
  unfold dotP
  have hu : ax - px = 0 ∧ ay - py = 0 ↔ key ax ay - key px py = 0 := by
    constructor
    · rintro ⟨h1, h2⟩; omega
    · intro h'
      have := key_inj ha hp (by omega)
      omega
  rw [hk] at hu
  rw [hk, hl]
  generalize ax - px = ux at *
  generalize ay - py = uy at *
  generalize bx - px = vx at *
  generalize bz - py = vy at *
  have hid : (ux * ux + uy * uy) * (16384 * vy + vx) = (ux * vx + uy * vy) * (16384 * uy + ux) := by grind
  by_cases h0 : ux = 0 ∧ uy = 0
  · rw [h0.1, h0.2]
    simp
  · have hpos := sum_pos h0
    have hkn : 16384 * uy + ux ≠ 0 := fun e => h0 (hu.2 e)
    have hk2 := sq_pos hkn
    have e : (ux * ux + uy * uy) * ((16384 * uy + ux) * (16384 * vy + vx)) = ((16384 * uy + ux) * (16384 * uy + ux)) * (ux * vx + uy * vy) := by
      have : (ux * ux + uy * uy) * ((16384 * uy + ux) * (16384 * vy + vx)) = (16384 * uy + ux) * ((ux * ux + uy * uy) * (16384 * vy + vx)) := by grind
      rw [this, hid]
      grind
    generalize (16384 * uy + ux) * (16384 * vy + vx) = G at *
    generalize ux * vx + uy * vy = H at *
    constructor
    · intro h1
      refine nonpos_of_mul hpos ?_
      rw [e]
      exact Int.mul_nonpos_of_nonneg_of_nonpos (by omega) h1
    · intro h1
      refine nonpos_of_mul hk2 ?_
      rw [← e]
      exact Int.mul_nonpos_of_nonneg_of_nonpos (by omega) h1

/-- parallel to one that is not zero -/
theorem par_trans {wx wy px py qx qy : Int} (hw : ¬ (wx = 0 ∧ wy = 0)) (h : px * wy = py * wx) (g : wx * qy = wy * qx) : px * qy = py * qx := by
  have hpos := sum_pos hw
  have : (px * qy - py * qx) * (wx * wx + wy * wy) = 0 := by
    have e1 : (px * qy - py * qx) * (wx * wx + wy * wy) = (px * wy - py * wx) * (wx * qx + wy * qy) + (px * wx + py * wy) * (wx * qy - wy * qx) := by grind
    rw [e1, h, g]
    simp
  have := zero_of_mul this (by omega)
  omega
/-- opposite vectors lie on different sides -/
theorem opp_sides {ux uy vx vy dx dy : Int} (h : ux * vy = uy * vx) : (ux * ux + uy * uy) * ((dx * uy - dy * ux) * (dx * vy - dy * vx)) = (ux * vx + uy * vy) * ((dx * uy - dy * ux) * (dx * uy - dy * ux)) := by
  grind
/-- the points of two lines that are not parallel are one -/
theorem only_one {dx dy ex ey wx wy : Int} (hD : dx * ey - dy * ex ≠ 0) (h1 : dx * wy - dy * wx = 0) (h2 : ex * wy - ey * wx = 0) : wx = 0 ∧ wy = 0 := by
  have e1 : wx * (dx * ey - dy * ex) = 0 := by
    have : wx * (dx * ey - dy * ex) = ex * (dx * wy - dy * wx) - dx * (ex * wy - ey * wx) := by grind
    rw [this, h1, h2]
    simp
  have e2 : wy * (dx * ey - dy * ex) = 0 := by
    have : wy * (dx * ey - dy * ex) = ey * (dx * wy - dy * wx) - dy * (ex * wy - ey * wx) := by grind
    rw [this, h1, h2]
    simp
  exact ⟨zero_of_mul e1 hD, zero_of_mul e2 hD⟩
/-- the ends of each lie strictly on different sides of the other one -/
def Prt (ax ay bx bz cx cy dx dy : Int) : Prop := crs ax ay bx bz cx cy * crs ax ay bx bz dx dy < 0

theorem on_end_l {ax ay bx bz : Int} : On ax ay bx bz ax ay := by
  unfold On crs dotP
  constructor
  · grind
  · simp
theorem on_end_r {ax ay bx bz : Int} : On ax ay bx bz bx bz := by
  unfold On crs dotP
  constructor
  · grind
  · simp

/-- on the line of both of its own points -/
theorem on_degen {ax ay px py : Int} (h : On ax ay ax ay px py) : px = ax ∧ py = ay := by
  unfold On dotP at h
  have h1 := sq_nonneg (ax - px)
  have h2 := sq_nonneg (ay - py)
  have e1 : ax - px = 0 := by
    by_cases e : ax - px = 0
    · exact e
    · have := sq_pos e; omega
  have e2 : ay - py = 0 := by
    by_cases e : ay - py = 0
    · exact e
    · have := sq_pos e; omega
  omega

/-- strictly on different sides, where the lines are not parallel and the point is no end of the second segment -/
theorem parts_of {ax ay bx bz cx cy dx dy px py : Int} (hs : crs ax ay bx bz px py = 0) (ht : On cx cy dx dy px py)
    (hD : (bx - ax) * (dy - cy) - (bz - ay) * (dx - cx) ≠ 0) (hc : ¬ (cx = px ∧ cy = py)) (hd : ¬ (dx = px ∧ dy = py)) : Prt ax ay bx bz cx cy dx dy := by
  obtain ⟨h1, h2⟩ := ht
  unfold Prt
  have e1 : crs ax ay bx bz cx cy = (bx - ax) * (cy - py) - (bz - ay) * (cx - px) := by unfold crs at *; grind
  have e2 : crs ax ay bx bz dx dy = (bx - ax) * (dy - py) - (bz - ay) * (dx - px) := by unfold crs at *; grind
  have hx : (cx - px) * (dy - py) = (cy - py) * (dx - px) := by unfold crs at h1; grind
  have hD' : (bx - ax) * ((dy - py) - (cy - py)) - (bz - ay) * ((dx - px) - (cx - px)) ≠ 0 := by
    rw [show (dy - py) - (cy - py) = dy - cy by omega, show (dx - px) - (cx - px) = dx - cx by omega]
    exact hD
  have hc' : ¬ (cx - px = 0 ∧ cy - py = 0) := by omega
  have hd' : ¬ (dx - px = 0 ∧ dy - py = 0) := by omega
  unfold dotP at h2
  rw [e1, e2]
  clear e1 e2 hs h1 hD hc hd
  generalize bx - ax = ex at *
  generalize bz - ay = ey at *
  generalize cx - px = ux at *
  generalize cy - py = uy at *
  generalize dx - px = vx at *
  generalize dy - py = vy at *
  have hu := sum_pos hc'
  have hv := sum_pos hd'
  have hdot : ux * vx + uy * vy ≠ 0 := by
    intro h0
    have : (ux * ux + uy * uy) * (vx * vx + vy * vy) = 0 := by
      have e : (ux * ux + uy * uy) * (vx * vx + vy * vy) = (ux * vx + uy * vy) * (ux * vx + uy * vy) + (ux * vy - uy * vx) * (ux * vy - uy * vx) := by grind
      rw [e, h0, hx]
      simp
    have := Int.mul_pos hu hv
    omega
  have hcu : ex * uy - ey * ux ≠ 0 := by
    intro h0
    have g0 : ex * vy - ey * vx = 0 := by
      have := par_trans hc' (px := ex) (py := ey) (by omega) hx
      omega
    apply hD'
    have : ex * (vy - uy) - ey * (vx - ux) = (ex * vy - ey * vx) - (ex * uy - ey * ux) := by grind
    rw [this, g0, h0]
    rfl
  have hsq := sq_pos hcu
  refine neg_of_mul hu ?_
  rw [opp_sides hx]
  exact Int.mul_neg_of_neg_of_pos (by omega) hsq

/-- a common point: one of the common ends is not above it and one is not below it, or the segments cross -/
theorem common_split {ax ay bx bz cx cy dx dy px py : Int} (ha : Lm ax ay) (hb : Lm bx bz) (hc : Lm cx cy) (hd : Lm dx dy) (hp : Lm px py)
    (hs : On ax ay bx bz px py) (ht : On cx cy dx dy px py) :
    ((∃ x y, ((x = ax ∧ y = ay) ∨ (x = bx ∧ y = bz) ∨ (x = cx ∧ y = cy) ∨ (x = dx ∧ y = dy)) ∧ On ax ay bx bz x y ∧ On cx cy dx dy x y ∧ key x y ≤ key px py) ∧
     (∃ x y, ((x = ax ∧ y = ay) ∨ (x = bx ∧ y = bz) ∨ (x = cx ∧ y = cy) ∨ (x = dx ∧ y = dy)) ∧ On ax ay bx bz x y ∧ On cx cy dx dy x y ∧ key px py ≤ key x y)) ∨
    Prt ax ay bx bz cx cy dx dy ∧ Prt cx cy dx dy ax ay bx bz := by
  by_cases e1 : ax = px ∧ ay = py
  · obtain ⟨rfl, rfl⟩ := e1
    exact .inl ⟨⟨_, _, .inl ⟨rfl, rfl⟩, hs, ht, Int.le_refl _⟩, ⟨_, _, .inl ⟨rfl, rfl⟩, hs, ht, Int.le_refl _⟩⟩
  by_cases e2 : bx = px ∧ bz = py
  · obtain ⟨rfl, rfl⟩ := e2
    exact .inl ⟨⟨_, _, .inr (.inl ⟨rfl, rfl⟩), hs, ht, Int.le_refl _⟩, ⟨_, _, .inr (.inl ⟨rfl, rfl⟩), hs, ht, Int.le_refl _⟩⟩
  by_cases e3 : cx = px ∧ cy = py
  · obtain ⟨rfl, rfl⟩ := e3
    exact .inl ⟨⟨_, _, .inr (.inr (.inl ⟨rfl, rfl⟩)), hs, ht, Int.le_refl _⟩, ⟨_, _, .inr (.inr (.inl ⟨rfl, rfl⟩)), hs, ht, Int.le_refl _⟩⟩
  by_cases e4 : dx = px ∧ dy = py
  · obtain ⟨rfl, rfl⟩ := e4
    exact .inl ⟨⟨_, _, .inr (.inr (.inr ⟨rfl, rfl⟩)), hs, ht, Int.le_refl _⟩, ⟨_, _, .inr (.inr (.inr ⟨rfl, rfl⟩)), hs, ht, Int.le_refl _⟩⟩
  by_cases hD : (bx - ax) * (dy - cy) - (bz - ay) * (dx - cx) = 0
  · left
    have hs0 : ¬ (ax - bx = 0 ∧ ay - bz = 0) := by
      intro h
      obtain ⟨rfl, rfl⟩ : ax = bx ∧ ay = bz := by omega
      have := on_degen hs
      omega
    have ht0 : ¬ (cx - dx = 0 ∧ cy - dy = 0) := by
      intro h
      obtain ⟨rfl, rfl⟩ : cx = dx ∧ cy = dy := by omega
      have := on_degen ht
      omega
    obtain ⟨h1, h1'⟩ := (on_btw ha hp).1 hs
    obtain ⟨g1, g1'⟩ := (on_btw hc hp).1 ht
    -- all four ends are on both lines
    have hpar : (bx - ax) * (cy - dy) = (bz - ay) * (cx - dx) := by grind
    have hc1 : crs ax ay bx bz cx cy = 0 := by
      have t := par_trans ht0 (px := bx - ax) (py := bz - ay) hpar (qx := cx - px) (qy := cy - py) (by unfold crs at g1; grind)
      unfold crs at *
      grind
    have hd1 : crs ax ay bx bz dx dy = 0 := by
      have t := par_trans ht0 (px := bx - ax) (py := bz - ay) hpar (qx := dx - px) (qy := dy - py) (by unfold crs at g1; grind)
      unfold crs at *
      grind
    have ha1 : crs cx cy dx dy ax ay = 0 := by
      have t := par_trans hs0 (px := dx - cx) (py := dy - cy) (by grind) (qx := ax - px) (qy := ay - py) (by unfold crs at h1; grind)
      unfold crs at *
      grind
    have hb1 : crs cx cy dx dy bx bz = 0 := by
      have t := par_trans hs0 (px := dx - cx) (py := dy - cy) (by grind) (qx := bx - px) (qy := bz - py) (by unfold crs at h1; grind)
      unfold crs at *
      grind
    have oc := @on_btw ax ay bx bz cx cy ha hc
    have od := @on_btw ax ay bx bz dx dy ha hd
    have oa := @on_btw cx cy dx dy ax ay hc ha
    have ob := @on_btw cx cy dx dy bx bz hc hb
    have sa := @on_end_l ax ay bx bz
    have sb := @on_end_r ax ay bx bz
    have tc := @on_end_l cx cy dx dy
    have td := @on_end_r cx cy dx dy
    simp only [hc1, hd1, ha1, hb1, true_and] at oc od oa ob
    unfold Btw at *
    have lo : (key ax ay ≤ key px py ∧ On cx cy dx dy ax ay) ∨ (key bx bz ≤ key px py ∧ On cx cy dx dy bx bz) ∨ (key cx cy ≤ key px py ∧ On ax ay bx bz cx cy) ∨ (key dx dy ≤ key px py ∧ On ax ay bx bz dx dy) := by
      rw [oa, ob, oc, od]
      omega
    have hi : (key px py ≤ key ax ay ∧ On cx cy dx dy ax ay) ∨ (key px py ≤ key bx bz ∧ On cx cy dx dy bx bz) ∨ (key px py ≤ key cx cy ∧ On ax ay bx bz cx cy) ∨ (key px py ≤ key dx dy ∧ On ax ay bx bz dx dy) := by
      rw [oa, ob, oc, od]
      omega
    refine ⟨?_, ?_⟩
    · rcases lo with ⟨k, o⟩ | ⟨k, o⟩ | ⟨k, o⟩ | ⟨k, o⟩
      · exact ⟨_, _, .inl ⟨rfl, rfl⟩, sa, o, k⟩
      · exact ⟨_, _, .inr (.inl ⟨rfl, rfl⟩), sb, o, k⟩
      · exact ⟨_, _, .inr (.inr (.inl ⟨rfl, rfl⟩)), o, tc, k⟩
      · exact ⟨_, _, .inr (.inr (.inr ⟨rfl, rfl⟩)), o, td, k⟩
    · rcases hi with ⟨k, o⟩ | ⟨k, o⟩ | ⟨k, o⟩ | ⟨k, o⟩
      · exact ⟨_, _, .inl ⟨rfl, rfl⟩, sa, o, k⟩
      · exact ⟨_, _, .inr (.inl ⟨rfl, rfl⟩), sb, o, k⟩
      · exact ⟨_, _, .inr (.inr (.inl ⟨rfl, rfl⟩)), o, tc, k⟩
      · exact ⟨_, _, .inr (.inr (.inr ⟨rfl, rfl⟩)), o, td, k⟩
  · right
    exact ⟨parts_of hs.1 ht hD e3 e4, parts_of ht.1 hs (by grind) e1 e2⟩
/-- an end of the second one on the first one: not strictly on different sides -/
theorem not_parts {ax ay bx bz cx cy dx dy x y : Int} (h : crs ax ay bx bz x y = 0) (e : (x = cx ∧ y = cy) ∨ (x = dx ∧ y = dy)) : ¬ Prt ax ay bx bz cx cy dx dy := by
  unfold Prt
  rcases e with ⟨rfl, rfl⟩ | ⟨rfl, rfl⟩ <;> rw [h] <;> simp
/-- a common end: the segments do not cross -/
theorem end_not_cross {ax ay bx bz cx cy dx dy x y : Int} (e : (x = ax ∧ y = ay) ∨ (x = bx ∧ y = bz) ∨ (x = cx ∧ y = cy) ∨ (x = dx ∧ y = dy)) (hs : On ax ay bx bz x y) (ht : On cx cy dx dy x y) :
    ¬ (Prt ax ay bx bz cx cy dx dy ∧ Prt cx cy dx dy ax ay bx bz) := by
  rintro ⟨h, g⟩
  rcases e with e | e | e | e
  · exact not_parts ht.1 (.inl e) g
  · exact not_parts ht.1 (.inr e) g
  · exact not_parts hs.1 (.inl e) h
  · exact not_parts hs.1 (.inr e) h
/-- two different points of a segment: the third one is on their line -/
theorem on_line {ax ay bx bz x y z t px py : Int} (h1 : On ax ay bx bz x y) (h2 : On ax ay bx bz z t) (h3 : On ax ay bx bz px py) (hne : ¬ (x = z ∧ y = t)) : crs x y z t px py = 0 := by
  have hs0 : ¬ (bx - ax = 0 ∧ bz - ay = 0) := by
    intro h
    obtain ⟨rfl, rfl⟩ : bx = ax ∧ bz = ay := by omega
    have := on_degen h1
    have := on_degen h2
    omega
  obtain ⟨h1, _⟩ := h1
  obtain ⟨h2, _⟩ := h2
  obtain ⟨h3, _⟩ := h3
  have g1 : (bx - ax) * (t - y) = (bz - ay) * (z - x) := by unfold crs at *; grind
  have g2 : (bx - ax) * (py - y) = (bz - ay) * (px - x) := by unfold crs at *; grind
  have := par_trans hs0 (px := z - x) (py := t - y) (by grind) g2
  unfold crs
  omega
/-- between two points of a segment -/
theorem on_mid {ax ay bx bz x y z t px py : Int} (ha : Lm ax ay) (hx : Lm x y) (hz : Lm z t) (hp : Lm px py) (h1 : On ax ay bx bz x y) (h2 : On ax ay bx bz z t) (h3 : On x y z t px py) (hne : ¬ (x = z ∧ y = t)) : On ax ay bx bz px py := by
  have k1 := ((on_btw ha hx).1 h1)
  have k2 := ((on_btw ha hz).1 h2)
  have k3 := ((on_btw hx hp).1 h3)
  refine (on_btw ha hp).2 ⟨?_, ?_⟩
  · have w0 : ¬ (z - x = 0 ∧ t - y = 0) := by omega
    have g0 : (bx - ax) * (t - y) = (bz - ay) * (z - x) := by
      have := k1.1
      have := k2.1
      unfold crs at *
      grind
    have := par_trans w0 (px := bx - ax) (py := bz - ay) g0 (qx := px - x) (qy := py - y) (by
      have := k3.1
      unfold crs at this
      omega)
    have := k1.1
    unfold crs at *
    grind
  · have := k1.2
    have := k2.2
    have := k3.2
    unfold Btw at *
    omega
end Go.Proofs.Ythifljljaejfmaa.G

namespace Go.Proofs.Ythifljljaejfmaa.G

/-- the denominator of the crossing of two lines -/
def denX (ax ay bx bz cx cy dx dy : Int) : Int := (bx - ax) * (dy - cy) - (bz - ay) * (dx - cx)
def numX (ax ay cx cy dx dy : Int) : Int := (cx - ax) * (dy - cy) - (cy - ay) * (dx - cx)
theorem crs_den (ax ay bx bz cx cy dx dy : Int) : crs ax ay bx bz dx dy - crs ax ay bx bz cx cy = denX ax ay bx bz cx cy dx dy := by
  unfold crs denX
  grind
theorem prt_den {ax ay bx bz cx cy dx dy : Int} (h : Prt ax ay bx bz cx cy dx dy) : denX ax ay bx bz cx cy dx dy ≠ 0 := by
  intro e
  have := crs_den ax ay bx bz cx cy dx dy
  unfold Prt at h
  rw [e] at this
  rw [show crs ax ay bx bz dx dy = crs ax ay bx bz cx cy by omega] at h
  have := sq_nonneg (crs ax ay bx bz cx cy)
  omega
/-- the numerator lies between 0 and the denominator -/
theorem num_between {ax ay bx bz cx cy dx dy : Int} (g : Prt cx cy dx dy ax ay bx bz) : 0 < numX ax ay cx cy dx dy ∧ numX ax ay cx cy dx dy < denX ax ay bx bz cx cy dx dy ∨ denX ax ay bx bz cx cy dx dy < numX ax ay cx cy dx dy ∧ numX ax ay cx cy dx dy < 0 := by
  unfold Prt at g
  have e1 : crs cx cy dx dy ax ay = numX ax ay cx cy dx dy := by unfold crs numX; grind
  have e2 : crs cx cy dx dy bx bz = numX ax ay cx cy dx dy - denX ax ay bx bz cx cy dx dy := by unfold crs numX denX; grind
  rw [e1, e2] at g
  generalize numX ax ay cx cy dx dy = n at *
  generalize denX ax ay bx bz cx cy dx dy = d at *
  rcases Int.lt_or_le 0 n with h | h
  · left
    refine ⟨h, ?_⟩
    rcases Int.lt_or_le n d with k | k
    · exact k
    · have := Int.mul_nonneg (show 0 ≤ n by omega) (show 0 ≤ n - d by omega)
      omega
  · right
    by_cases h0 : n = 0
    · rw [h0] at g; simp at g
    · refine ⟨?_, by omega⟩
      rcases Int.lt_or_le d n with k | k
      · exact k
      · have := Int.mul_nonneg_of_nonpos_of_nonpos (show n ≤ 0 by omega) (show n - d ≤ 0 by omega)
        omega
/-- a convex combination stays within -/
theorem mix_le {a b n d M : Int} (ha : -M ≤ a ∧ a ≤ M) (hb : -M ≤ b ∧ b ≤ M) (h0 : 0 ≤ n) (h1 : n ≤ d) : -(M * d) ≤ a * d + (b - a) * n ∧ a * d + (b - a) * n ≤ M * d := by
  have e : a * d + (b - a) * n = a * (d - n) + b * n := by grind
  have eM : M * d = M * (d - n) + M * n := by grind
  have eM' : -(M * d) = (-M) * (d - n) + (-M) * n := by grind
  have k1 := Int.mul_le_mul_of_nonneg_right ha.1 (show 0 ≤ d - n by omega)
  have k2 := Int.mul_le_mul_of_nonneg_right ha.2 (show 0 ≤ d - n by omega)
  have k3 := Int.mul_le_mul_of_nonneg_right hb.1 h0
  have k4 := Int.mul_le_mul_of_nonneg_right hb.2 h0
  rw [eM', eM, e]
  omega
/-- which integer points lie on both segments that cross -/
theorem cross_on {ax ay bx bz cx cy dx dy px py : Int} (h : Prt ax ay bx bz cx cy dx dy) (g : Prt cx cy dx dy ax ay bx bz) :
    (On ax ay bx bz px py ∧ On cx cy dx dy px py) ↔ ax * denX ax ay bx bz cx cy dx dy + (bx - ax) * numX ax ay cx cy dx dy = px * denX ax ay bx bz cx cy dx dy ∧ ay * denX ax ay bx bz cx cy dx dy + (bz - ay) * numX ax ay cx cy dx dy = py * denX ax ay bx bz cx cy dx dy := by
  constructor
  · rintro ⟨⟨h1, _⟩, ⟨g1, _⟩⟩
    unfold crs at h1 g1
    constructor
    · have : ax * denX ax ay bx bz cx cy dx dy + (bx - ax) * numX ax ay cx cy dx dy - px * denX ax ay bx bz cx cy dx dy = (dx - cx) * ((bx - ax) * (py - ay) - (bz - ay) * (px - ax)) - (bx - ax) * ((dx - cx) * (py - cy) - (dy - cy) * (px - cx)) := by
        unfold denX numX
        grind
      rw [h1, g1] at this
      simp at this
      omega
    · have : ay * denX ax ay bx bz cx cy dx dy + (bz - ay) * numX ax ay cx cy dx dy - py * denX ax ay bx bz cx cy dx dy = (dy - cy) * ((bx - ax) * (py - ay) - (bz - ay) * (px - ax)) - (bz - ay) * ((dx - cx) * (py - cy) - (dy - cy) * (px - cx)) := by
        unfold denX numX
        grind
      rw [h1, g1] at this
      simp at this
      omega
  · rintro ⟨e1, e2⟩
    have hD := prt_den h
    have hs : crs ax ay bx bz px py = 0 := by
      refine zero_of_mul (b := denX ax ay bx bz cx cy dx dy) ?_ hD
      have : crs ax ay bx bz px py * denX ax ay bx bz cx cy dx dy = (bx - ax) * (py * denX ax ay bx bz cx cy dx dy - ay * denX ax ay bx bz cx cy dx dy) - (bz - ay) * (px * denX ax ay bx bz cx cy dx dy - ax * denX ax ay bx bz cx cy dx dy) := by unfold crs; grind
      rw [this, ← e1, ← e2]
      grind
    have ht : crs cx cy dx dy px py = 0 := by
      refine zero_of_mul (b := denX ax ay bx bz cx cy dx dy) ?_ hD
      have : crs cx cy dx dy px py * denX ax ay bx bz cx cy dx dy = (dx - cx) * (py * denX ax ay bx bz cx cy dx dy - cy * denX ax ay bx bz cx cy dx dy) - (dy - cy) * (px * denX ax ay bx bz cx cy dx dy - cx * denX ax ay bx bz cx cy dx dy) := by unfold crs; grind
      rw [this, ← e1, ← e2]
      unfold denX numX
      grind
    have key : ∀ {ax ay bx bz cx cy dx dy px py : Int}, crs ax ay bx bz px py = 0 → crs cx cy dx dy px py = 0 → Prt ax ay bx bz cx cy dx dy → dotP cx cy dx dy px py ≤ 0 := by
      intro ax ay bx bz cx cy dx dy px py h1 h2 h
      unfold Prt at h
      have e1 : crs ax ay bx bz cx cy = (bx - ax) * (cy - py) - (bz - ay) * (cx - px) := by unfold crs at *; grind
      have e2 : crs ax ay bx bz dx dy = (bx - ax) * (dy - py) - (bz - ay) * (dx - px) := by unfold crs at *; grind
      have hx : (cx - px) * (dy - py) = (cy - py) * (dx - px) := by unfold crs at h2; grind
      rw [e1, e2] at h
      unfold dotP
      clear e1 e2 h1 h2
      generalize bx - ax = ex at *
      generalize bz - ay = ey at *
      generalize cx - px = ux at *
      generalize cy - py = uy at *
      generalize dx - px = vx at *
      generalize dy - py = vy at *
      have hid := opp_sides (dx := ex) (dy := ey) hx
      have hu : ¬ (ux = 0 ∧ uy = 0) := by
        rintro ⟨rfl, rfl⟩
        simp at h
      have hcu : ex * uy - ey * ux ≠ 0 := by
        intro e
        rw [e] at h
        simp at h
      have hp := sum_pos hu
      have hq := sq_pos hcu
      have hn : (ux * ux + uy * uy) * ((ex * uy - ey * ux) * (ex * vy - ey * vx)) < 0 := Int.mul_neg_of_pos_of_neg hp h
      rw [hid, Int.mul_comm] at hn
      exact Int.le_of_lt (neg_of_mul hq hn)
    exact ⟨⟨hs, key ht hs g⟩, ⟨ht, key hs ht h⟩⟩

/-- the greatest common divisor of three -/
def gcd3 (x y d : Int) : Nat := Int.gcd (Int.gcd x y) d
theorem gcd3_dvd (x y d : Int) : (gcd3 x y d : Int) ∣ x ∧ (gcd3 x y d : Int) ∣ y ∧ (gcd3 x y d : Int) ∣ d := by
  have h1 : (gcd3 x y d : Int) ∣ (Int.gcd x y : Int) := Int.gcd_dvd_left ..
  exact ⟨Int.dvd_trans h1 (Int.gcd_dvd_left ..), Int.dvd_trans h1 (Int.gcd_dvd_right ..), Int.gcd_dvd_right ..⟩
theorem dvd_gcd3 {k x y d : Int} (hx : k ∣ x) (hy : k ∣ y) (hd : k ∣ d) : k ∣ (gcd3 x y d : Int) := Int.dvd_coe_gcd (Int.dvd_coe_gcd hx hy) hd
theorem gcd3_pos {x y d : Int} (h : d ≠ 0) : 0 < gcd3 x y d := Int.gcd_pos_of_ne_zero_right _ h
theorem gcd3_eq {x y d x' y' d' : Int} (h1 : (gcd3 x y d : Int) ∣ x' ∧ (gcd3 x y d : Int) ∣ y' ∧ (gcd3 x y d : Int) ∣ d') (h2 : (gcd3 x' y' d' : Int) ∣ x ∧ (gcd3 x' y' d' : Int) ∣ y ∧ (gcd3 x' y' d' : Int) ∣ d) : gcd3 x y d = gcd3 x' y' d' :=
  Nat.dvd_antisymm (Int.natCast_dvd_natCast.1 (dvd_gcd3 h1.1 h1.2.1 h1.2.2)) (Int.natCast_dvd_natCast.1 (dvd_gcd3 h2.1 h2.2.1 h2.2.2))
theorem gcd3_move (x y d v w : Int) : gcd3 (x + v * d) (y + w * d) d = gcd3 x y d := by
  obtain ⟨a1, a2, a3⟩ := gcd3_dvd x y d
  obtain ⟨b1, b2, b3⟩ := gcd3_dvd (x + v * d) (y + w * d) d
  refine gcd3_eq ⟨?_, ?_, b3⟩ ⟨Int.dvd_add a1 (Int.dvd_mul_of_dvd_right a3), Int.dvd_add a2 (Int.dvd_mul_of_dvd_right a3), a3⟩
  · exact (Int.dvd_add_left (Int.dvd_mul_of_dvd_right b3)).1 b1
  · exact (Int.dvd_add_left (Int.dvd_mul_of_dvd_right b3)).1 b2
/-- a point in lowest terms -/
def lowV (x y d : Int) : Int × Int × Int := (x.tdiv (gcd3 x y d), y.tdiv (gcd3 x y d), d.tdiv (gcd3 x y d))
theorem low_way {x y d : Int} (h : d ≠ 0) : ∃ g : Int, 0 < g ∧ g = gcd3 x y d ∧ x = g * (lowV x y d).1 ∧ y = g * (lowV x y d).2.1 ∧ d = g * (lowV x y d).2.2 := by
  obtain ⟨h1, h2, h3⟩ := gcd3_dvd x y d
  refine ⟨gcd3 x y d, by have := gcd3_pos (x := x) (y := y) h; omega, rfl, ?_, ?_, ?_⟩
  · exact (Int.mul_tdiv_cancel' h1).symm
  · exact (Int.mul_tdiv_cancel' h2).symm
  · exact (Int.mul_tdiv_cancel' h3).symm
theorem low_move {x y d : Int} (v w : Int) (h : d ≠ 0) : lowV (x + v * d) (y + w * d) d = ((lowV x y d).1 + v * (lowV x y d).2.2, (lowV x y d).2.1 + w * (lowV x y d).2.2, (lowV x y d).2.2) := by
  obtain ⟨g, hg, eg, e1, e2, e3⟩ := low_way (x := x) (y := y) h
  obtain ⟨k, hk, ek, f1, f2, f3⟩ := low_way (x := x + v * d) (y := y + w * d) h
  rw [gcd3_move, ← eg] at ek
  subst ek
  have n : k ≠ 0 := by omega
  have g3 := Int.eq_of_mul_eq_mul_left n (f3.symm.trans e3)
  refine Prod.ext ?_ (Prod.ext ?_ g3)
  · refine Int.eq_of_mul_eq_mul_left n ?_
    rw [← f1, Int.mul_add, ← e1, ← Int.mul_assoc, Int.mul_comm k v, Int.mul_assoc, ← e3]
  · refine Int.eq_of_mul_eq_mul_left n ?_
    rw [← f2, Int.mul_add, ← e2, ← Int.mul_assoc, Int.mul_comm k w, Int.mul_assoc, ← e3]
theorem low_valid {x y d : Int} (h : 0 < d) : gcd3 (lowV x y d).1 (lowV x y d).2.1 (lowV x y d).2.2 = 1 := by
  obtain ⟨g, hg, eg, e1, e2, e3⟩ := low_way (x := x) (y := y) (show d ≠ 0 by omega)
  obtain ⟨a1, a2, a3⟩ := gcd3_dvd (lowV x y d).1 (lowV x y d).2.1 (lowV x y d).2.2
  have : g * (gcd3 (lowV x y d).1 (lowV x y d).2.1 (lowV x y d).2.2 : Int) ∣ g := by
    conv => rhs; rw [eg]
    refine dvd_gcd3 ?_ ?_ ?_
    · conv => rhs; rw [e1]
      exact Int.mul_dvd_mul_left _ a1
    · conv => rhs; rw [e2]
      exact Int.mul_dvd_mul_left _ a2
    · conv => rhs; rw [e3]
      exact Int.mul_dvd_mul_left _ a3
  obtain ⟨c, hc⟩ := this
  have h1 : g * ((gcd3 (lowV x y d).1 (lowV x y d).2.1 (lowV x y d).2.2 : Int) * c) = g * 1 := by rw [← Int.mul_assoc, ← hc, Int.mul_one]
  have h2 := Int.eq_of_mul_eq_mul_left (show g ≠ 0 by omega) h1
  have := Int.eq_one_of_mul_eq_one_right (by omega) h2
  omega
theorem low_den {x y d : Int} (h : 0 < d) : 0 < (lowV x y d).2.2 ∧ (lowV x y d).2.2 ≤ d := by
  obtain ⟨g, hg, eg, e1, e2, e3⟩ := low_way (x := x) (y := y) (show d ≠ 0 by omega)
  generalize lowV x y d = l at *
  have hp : 0 < l.2.2 := by
    rcases Int.lt_or_le 0 l.2.2 with k | k
    · exact k
    · have := Int.mul_nonpos_of_nonneg_of_nonpos (show 0 ≤ g by omega) k
      omega
  refine ⟨hp, ?_⟩
  have := Int.mul_le_mul_of_nonneg_right (show 1 ≤ g by omega) (Int.le_of_lt hp)
  omega
theorem low_within {x y d M : Int} (h : 0 < d) (hx : -(M * d) ≤ x ∧ x ≤ M * d) (hy : -(M * d) ≤ y ∧ y ≤ M * d) : (-(M * (lowV x y d).2.2) ≤ (lowV x y d).1 ∧ (lowV x y d).1 ≤ M * (lowV x y d).2.2) ∧ (-(M * (lowV x y d).2.2) ≤ (lowV x y d).2.1 ∧ (lowV x y d).2.1 ≤ M * (lowV x y d).2.2) := by
  obtain ⟨g, hg, eg, e1, e2, e3⟩ := low_way (x := x) (y := y) (show d ≠ 0 by omega)
  generalize lowV x y d = l at *
  have em : M * d = g * (M * l.2.2) := by rw [e3]; grind
  rw [em, e1, ← Int.mul_neg] at hx
  rw [em, e2, ← Int.mul_neg] at hy
  exact ⟨⟨Int.le_of_mul_le_mul_left hx.1 hg, Int.le_of_mul_le_mul_left hx.2 hg⟩, ⟨Int.le_of_mul_le_mul_left hy.1 hg, Int.le_of_mul_le_mul_left hy.2 hg⟩⟩
/-- where it is an integer point -/
theorem low_int {x y d px py : Int} (h : 0 < d) : lowV x y d = (px, py, 1) ↔ x = px * d ∧ y = py * d := by
  obtain ⟨g, hg, eg, e1, e2, e3⟩ := low_way (x := x) (y := y) (show d ≠ 0 by omega)
  have hv := low_valid (x := x) (y := y) h
  have hd := (low_den (x := x) (y := y) h).1
  generalize lowV x y d = l at *
  obtain ⟨l1, l2, l3⟩ := l
  simp only at *
  constructor
  · intro e
    injection e with e4 e5
    injection e5 with e5 e6
    subst e4 e5 e6
    rw [e1, e2, e3]
    constructor <;> grind
  · rintro ⟨h1, h2⟩
    have n : g ≠ 0 := by omega
    have k1 : l1 = px * l3 := Int.eq_of_mul_eq_mul_left n (by rw [← e1, h1]; conv => lhs; rw [e3]
                                                              grind)
    have k2 : l2 = py * l3 := Int.eq_of_mul_eq_mul_left n (by rw [← e2, h2]; conv => lhs; rw [e3]
                                                              grind)
    have : l3 ∣ (gcd3 l1 l2 l3 : Int) := dvd_gcd3 ⟨px, by rw [k1, Int.mul_comm]⟩ ⟨py, by rw [k2, Int.mul_comm]⟩ (Int.dvd_refl _)
    rw [hv] at this
    have h3 : l3 = 1 := Int.eq_one_of_dvd_one (by omega) this
    subst h3
    rw [k1, k2]
    simp
end Go.Proofs.Ythifljljaejfmaa.G
