/-
  seg, plain: points on segments, the order on a line, what two segments have in common; integers only, no program. Condition: the coordinates are within 4000 where it says so.
  hull, plain: a convex ring around some points whose vertices are among them: the next vertex is the one that is found by turning around the last one; its least vertex is the least point; so there is one such ring only. No condition but those that stand.
  hull, plain: vertices are distinct; there is one hull; a linear function takes its least value at a vertex; what contains the vertices contains the ring; the square of a scalar product. No condition but those that stand.
  hull, plain: a chain that is made by popping what does not turn left, over points in ascending order: it turns left everywhere, and no point lies to the right of one of its edges. No condition but those that stand.
  hull, plain: a ring that turns left at each vertex, whose vertices are distinct and lie to the right of no edge, is convex. No condition but those that stand.
-/
import Derived.Test.YthbgapcplgigoaaK01
import Derived.Test.YthbgapcplgigoaaK02
namespace Go.Proofs.Ythbgapcplgigoaa.G

/-- the exact cross product of b - a and c - a -/
def crs (ax ay bx bz cx cy : Int) : Int := (bx - ax) * (cy - ay) - (bz - ay) * (cx - ax)
def dotP (ax ay bx bz px py : Int) : Int := (ax - px) * (bx - px) + (ay - py) * (bz - py)
/-- on the segment: on its line, and the ends in opposite directions -/
def On (ax ay bx bz px py : Int) : Prop := crs ax ay bx bz px py = 0 ∧ dotP ax ay bx bz px py ≤ 0
def Lm (x y : Int) : Prop := -4000 ≤ x ∧ x ≤ 4000 ∧ -4000 ≤ y ∧ y ≤ 4000
def key (x y : Int) : Int := y * 16384 + x
/-- between in the order -/
def Btw (ax ay bx bz px py : Int) : Prop := key ax ay ≤ key px py ∧ key px py ≤ key bx bz ∨ key bx bz ≤ key px py ∧ key px py ≤ key ax ay

theorem sq_nonneg (a : Int) : 0 ≤ a * a := by
  rcases Int.le_total 0 a with h | h
  · exact Int.mul_nonneg h h
  · exact Int.mul_nonneg_of_nonpos_of_nonpos h h
theorem sq_pos {a : Int} (h : a ≠ 0) : 0 < a * a := by
  rcases Int.lt_or_gt_of_ne h with h | h
  · exact Int.mul_pos_of_neg_of_neg h h
  · exact Int.mul_pos h h
theorem sum_pos {x y : Int} (h : ¬ (x = 0 ∧ y = 0)) : 0 < x * x + y * y := by
  by_cases hx : x = 0
  · have hy : y ≠ 0 := fun e => h ⟨hx, e⟩
    have := sq_pos hy
    have := sq_nonneg x
    omega
  · have := sq_pos hx
    have := sq_nonneg y
    omega
theorem zero_of_mul {a b : Int} (h : a * b = 0) (hb : b ≠ 0) : a = 0 := (Int.mul_eq_zero.1 h).resolve_right hb
theorem nonpos_of_mul {a b : Int} (hb : 0 < b) (h : b * a ≤ 0) : a ≤ 0 := by
  rcases Int.lt_or_le 0 a with g | g
  · have := Int.mul_pos hb g
    omega
  · exact g
theorem neg_of_mul {a b : Int} (hb : 0 < b) (h : b * a < 0) : a < 0 := by
  rcases Int.lt_or_le a 0 with g | g
  · exact g
  · have := Int.mul_nonneg (Int.le_of_lt hb) g
    omega

/-- the box, on a line -/
theorem box_iff {ux uy vx vy : Int} (h : ux * vy = uy * vx) : ux * vx + uy * vy ≤ 0 ↔ ux * vx ≤ 0 ∧ uy * vy ≤ 0 := by
  constructor
  · intro hd
    have hp : (ux * vx) * (uy * vy) = (ux * vy) * (ux * vy) := by
      have : (ux * vx) * (uy * vy) = (ux * vy) * (uy * vx) := by grind
      rw [this, ← h]
    have hn := sq_nonneg (ux * vy)
    rw [← hp] at hn
    generalize ux * vx = A at *
    generalize uy * vy = B at *
    constructor
    · rcases Int.lt_or_le 0 A with g | g
      · have : B < 0 := by omega
        have := Int.mul_neg_of_pos_of_neg g this
        omega
      · exact g
    · rcases Int.lt_or_le 0 B with g | g
      · have : A < 0 := by omega
        have := Int.mul_neg_of_neg_of_pos this g
        omega
      · exact g
  · rintro ⟨h1, h2⟩
    omega
theorem side_iff (a b p : Int) : (a - p) * (b - p) ≤ 0 ↔ min a b ≤ p ∧ p ≤ max a b := by
  constructor
  · intro h
    rcases Int.lt_or_le 0 (a - p) with g | g <;> rcases Int.lt_or_le 0 (b - p) with k | k
    · have := Int.mul_pos g k
      omega
    · omega
    · omega
    · by_cases e : a - p = 0
      · omega
      · by_cases e' : b - p = 0
        · omega
        · have := Int.mul_pos_of_neg_of_neg (show a - p < 0 by omega) (show b - p < 0 by omega)
          omega
  · rintro ⟨h1, h2⟩
    rcases Int.le_total a b with g | g
    · exact Int.mul_nonpos_of_nonpos_of_nonneg (by omega) (by omega)
    · exact Int.mul_nonpos_of_nonneg_of_nonpos (by omega) (by omega)
theorem on_box (ax ay bx bz px py : Int) : On ax ay bx bz px py ↔ (min ax bx ≤ px ∧ px ≤ max ax bx ∧ min ay bz ≤ py ∧ py ≤ max ay bz) ∧ crs ax ay bx bz px py = 0 := by
  unfold On dotP
  constructor
  · rintro ⟨h1, h2⟩
    have hp : (ax - px) * (bz - py) = (ay - py) * (bx - px) := by unfold crs at h1; grind
    obtain ⟨h3, h4⟩ := (box_iff hp).1 h2
    have := (side_iff _ _ _).1 h3
    have := (side_iff _ _ _).1 h4
    exact ⟨⟨by omega, by omega, by omega, by omega⟩, h1⟩
  · rintro ⟨⟨h1, h2, h3, h4⟩, h5⟩
    have hp : (ax - px) * (bz - py) = (ay - py) * (bx - px) := by unfold crs at h5; grind
    exact ⟨h5, (box_iff hp).2 ⟨(side_iff _ _ _).2 ⟨h1, h2⟩, (side_iff _ _ _).2 ⟨h3, h4⟩⟩⟩

theorem key_inj {x y z t : Int} (h : Lm x y) (g : Lm z t) (e : key x y = key z t) : x = z ∧ y = t := by
  unfold Lm key at *
  omega
theorem key_lt {x y z t : Int} (h : Lm x y) (g : Lm z t) : key x y < key z t ↔ y < t ∨ y = t ∧ x < z := by
  unfold Lm key at *
  omega
theorem between (a b p : Int) : (a - p) * (b - p) ≤ 0 ↔ a ≤ p ∧ p ≤ b ∨ b ≤ p ∧ p ≤ a := by
  rw [side_iff]
  omega
theorem on_btw {ax ay bx bz px py : Int} (ha : Lm ax ay) (hp : Lm px py) : On ax ay bx bz px py ↔ crs ax ay bx bz px py = 0 ∧ Btw ax ay bx bz px py := by
  unfold On Btw
  rw [← between]
  refine and_congr_right fun h => ?_
  have hx : (ax - px) * (bz - py) = (ay - py) * (bx - px) := by unfold crs at h; grind
  have hk : key ax ay - key px py = 16384 * (ay - py) + (ax - px) := by unfold key; omega
  have hl : key bx bz - key px py = 16384 * (bz - py) + (bx - px) := by unfold key; omega
  unfold dotP
  have hu : ax - px = 0 ∧ ay - py = 0 ↔ key ax ay - key px py = 0 := by
    constructor
    · rintro ⟨h1, h2⟩; omega
    · intro h'
      have := key_inj ha hp (by omega)
      omega
  rw [hk] at hu
  rw [hk, hl]
  generalize ax - px = ux at *
  generalize ay - py = uy at *
  generalize bx - px = vx at *
  generalize bz - py = vy at *
  have hid : (ux * ux + uy * uy) * (16384 * vy + vx) = (ux * vx + uy * vy) * (16384 * uy + ux) := by grind
  by_cases h0 : ux = 0 ∧ uy = 0
  · rw [h0.1, h0.2]
    simp
  · have hpos := sum_pos h0
    have hkn : 16384 * uy + ux ≠ 0 := fun e => h0 (hu.2 e)
    have hk2 := sq_pos hkn
    have e : (ux * ux + uy * uy) * ((16384 * uy + ux) * (16384 * vy + vx)) = ((16384 * uy + ux) * (16384 * uy + ux)) * (ux * vx + uy * vy) := by
      have : (ux * ux + uy * uy) * ((16384 * uy + ux) * (16384 * vy + vx)) = (16384 * uy + ux) * ((ux * ux + uy * uy) * (16384 * vy + vx)) := by grind
      rw [this, hid]
      grind
    generalize (16384 * uy + ux) * (16384 * vy + vx) = G at *
    generalize ux * vx + uy * vy = H at *
    constructor
    · intro h1
      refine nonpos_of_mul hpos ?_
      rw [e]
      exact Int.mul_nonpos_of_nonneg_of_nonpos (by omega) h1
    · intro h1
      refine nonpos_of_mul hk2 ?_
      rw [← e]
      exact Int.mul_nonpos_of_nonneg_of_nonpos (by omega) h1

/-- parallel to one that is not zero -/
theorem par_trans {wx wy px py qx qy : Int} (hw : ¬ (wx = 0 ∧ wy = 0)) (h : px * wy = py * wx) (g : wx * qy = wy * qx) : px * qy = py * qx := by
  have hpos := sum_pos hw
  have : (px * qy - py * qx) * (wx * wx + wy * wy) = 0 := by
    have e1 : (px * qy - py * qx) * (wx * wx + wy * wy) = (px * wy - py * wx) * (wx * qx + wy * qy) + (px * wx + py * wy) * (wx * qy - wy * qx) := by grind
    rw [e1, h, g]
    simp
  have := zero_of_mul this (by omega)
  omega
/-- opposite vectors lie on different sides -/
theorem opp_sides {ux uy vx vy dx dy : Int} (h : ux * vy = uy * vx) : (ux * ux + uy * uy) * ((dx * uy - dy * ux) * (dx * vy - dy * vx)) = (ux * vx + uy * vy) * ((dx * uy - dy * ux) * (dx * uy - dy * ux)) := by
  grind
/-- the points of two lines that are not parallel are one -/
theorem only_one {dx dy ex ey wx wy : Int} (hD : dx * ey - dy * ex ≠ 0) (h1 : dx * wy - dy * wx = 0) (h2 : ex * wy - ey * wx = 0) : wx = 0 ∧ wy = 0 := by
  have e1 : wx * (dx * ey - dy * ex) = 0 := by
    have : wx * (dx * ey - dy * ex) = ex * (dx * wy - dy * wx) - dx * (ex * wy - ey * wx) := by grind
    rw [this, h1, h2]
    simp
  have e2 : wy * (dx * ey - dy * ex) = 0 := by
    have : wy * (dx * ey - dy * ex) = ey * (dx * wy - dy * wx) - dy * (ex * wy - ey * wx) := by grind
    rw [this, h1, h2]
    simp
  exact ⟨zero_of_mul e1 hD, zero_of_mul e2 hD⟩
/-- the ends of each lie strictly on different sides of the other one -/
def Prt (ax ay bx bz cx cy dx dy : Int) : Prop := crs ax ay bx bz cx cy * crs ax ay bx bz dx dy < 0

theorem on_end_l {ax ay bx bz : Int} : On ax ay bx bz ax ay := by
  unfold On crs dotP
  constructor
  · grind
  · simp
theorem on_end_r {ax ay bx bz : Int} : On ax ay bx bz bx bz := by
  unfold On crs dotP
  constructor
  · grind
  · simp

/-- on the line of both of its own points -/
theorem on_degen {ax ay px py : Int} (h : On ax ay ax ay px py) : px = ax ∧ py = ay := by
  unfold On dotP at h
  have h1 := sq_nonneg (ax - px)
  have h2 := sq_nonneg (ay - py)
  have e1 : ax - px = 0 := by
    by_cases e : ax - px = 0
    · exact e
    · have := sq_pos e; omega
  have e2 : ay - py = 0 := by
    by_cases e : ay - py = 0
    · exact e
    · have := sq_pos e; omega
  omega

/-- strictly on different sides, where the lines are not parallel and the point is no end of the second segment -/
theorem parts_of {ax ay bx bz cx cy dx dy px py : Int} (hs : crs ax ay bx bz px py = 0) (ht : On cx cy dx dy px py)
    (hD : (bx - ax) * (dy - cy) - (bz - ay) * (dx - cx) ≠ 0) (hc : ¬ (cx = px ∧ cy = py)) (hd : ¬ (dx = px ∧ dy = py)) : Prt ax ay bx bz cx cy dx dy := by
  obtain ⟨h1, h2⟩ := ht
  unfold Prt
  have e1 : crs ax ay bx bz cx cy = (bx - ax) * (cy - py) - (bz - ay) * (cx - px) := by unfold crs at *; grind
  have e2 : crs ax ay bx bz dx dy = (bx - ax) * (dy - py) - (bz - ay) * (dx - px) := by unfold crs at *; grind
  have hx : (cx - px) * (dy - py) = (cy - py) * (dx - px) := by unfold crs at h1; grind
  have hD' : (bx - ax) * ((dy - py) - (cy - py)) - (bz - ay) * ((dx - px) - (cx - px)) ≠ 0 := by
    rw [show (dy - py) - (cy - py) = dy - cy by omega, show (dx - px) - (cx - px) = dx - cx by omega]
    exact hD
  have hc' : ¬ (cx - px = 0 ∧ cy - py = 0) := by omega
  have hd' : ¬ (dx - px = 0 ∧ dy - py = 0) := by omega
  unfold dotP at h2
  rw [e1, e2]
  clear e1 e2 hs h1 hD hc hd
  generalize bx - ax = ex at *
  generalize bz - ay = ey at *
  generalize cx - px = ux at *
  generalize cy - py = uy at *
  generalize dx - px = vx at *
  generalize dy - py = vy at *
  have hu := sum_pos hc'
  have hv := sum_pos hd'
  have hdot : ux * vx + uy * vy ≠ 0 := by
    intro h0
    have : (ux * ux + uy * uy) * (vx * vx + vy * vy) = 0 := by
      have e : (ux * ux + uy * uy) * (vx * vx + vy * vy) = (ux * vx + uy * vy) * (ux * vx + uy * vy) + (ux * vy - uy * vx) * (ux * vy - uy * vx) := by grind
      rw [e, h0, hx]
      simp
    have := Int.mul_pos hu hv
    omega
  have hcu : ex * uy - ey * ux ≠ 0 := by
    intro h0
    have g0 : ex * vy - ey * vx = 0 := by
      have := par_trans hc' (px := ex) (py := ey) (by omega) hx
      omega
    apply hD'
    have : ex * (vy - uy) - ey * (vx - ux) = (ex * vy - ey * vx) - (ex * uy - ey * ux) := by grind
    rw [this, g0, h0]
    rfl
  have hsq := sq_pos hcu
  refine neg_of_mul hu ?_
  rw [opp_sides hx]
  exact Int.mul_neg_of_neg_of_pos (by omega) hsq

/-- a common point: one of the common ends is not above it and one is not below it, or the segments cross -/
theorem common_split {ax ay bx bz cx cy dx dy px py : Int} (ha : Lm ax ay) (hb : Lm bx bz) (hc : Lm cx cy) (hd : Lm dx dy) (hp : Lm px py)
    (hs : On ax ay bx bz px py) (ht : On cx cy dx dy px py) :
    ((∃ x y, ((x = ax ∧ y = ay) ∨ (x = bx ∧ y = bz) ∨ (x = cx ∧ y = cy) ∨ (x = dx ∧ y = dy)) ∧ On ax ay bx bz x y ∧ On cx cy dx dy x y ∧ key x y ≤ key px py) ∧
     (∃ x y, ((x = ax ∧ y = ay) ∨ (x = bx ∧ y = bz) ∨ (x = cx ∧ y = cy) ∨ (x = dx ∧ y = dy)) ∧ On ax ay bx bz x y ∧ On cx cy dx dy x y ∧ key px py ≤ key x y)) ∨
    Prt ax ay bx bz cx cy dx dy ∧ Prt cx cy dx dy ax ay bx bz := by
  by_cases e1 : ax = px ∧ ay = py
  · obtain ⟨rfl, rfl⟩ := e1
    exact .inl ⟨⟨_, _, .inl ⟨rfl, rfl⟩, hs, ht, Int.le_refl _⟩, ⟨_, _, .inl ⟨rfl, rfl⟩, hs, ht, Int.le_refl _⟩⟩
  by_cases e2 : bx = px ∧ bz = py
  · obtain ⟨rfl, rfl⟩ := e2
    exact .inl ⟨⟨_, _, .inr (.inl ⟨rfl, rfl⟩), hs, ht, Int.le_refl _⟩, ⟨_, _, .inr (.inl ⟨rfl, rfl⟩), hs, ht, Int.le_refl _⟩⟩
  by_cases e3 : cx = px ∧ cy = py
  · obtain ⟨rfl, rfl⟩ := e3
    exact .inl ⟨⟨_, _, .inr (.inr (.inl ⟨rfl, rfl⟩)), hs, ht, Int.le_refl _⟩, ⟨_, _, .inr (.inr (.inl ⟨rfl, rfl⟩)), hs, ht, Int.le_refl _⟩⟩
  by_cases e4 : dx = px ∧ dy = py
  · obtain ⟨rfl, rfl⟩ := e4
    exact .inl ⟨⟨_, _, .inr (.inr (.inr ⟨rfl, rfl⟩)), hs, ht, Int.le_refl _⟩, ⟨_, _, .inr (.inr (.inr ⟨rfl, rfl⟩)), hs, ht, Int.le_refl _⟩⟩
  by_cases hD : (bx - ax) * (dy - cy) - (bz - ay) * (dx - cx) = 0
  · left
    have hs0 : ¬ (ax - bx = 0 ∧ ay - bz = 0) := by
      intro h
      obtain ⟨rfl, rfl⟩ : ax = bx ∧ ay = bz := by omega
      have := on_degen hs
      omega
    have ht0 : ¬ (cx - dx = 0 ∧ cy - dy = 0) := by
      intro h
      obtain ⟨rfl, rfl⟩ : cx = dx ∧ cy = dy := by omega
      have := on_degen ht
      omega
    obtain ⟨h1, h1'⟩ := (on_btw ha hp).1 hs
    obtain ⟨g1, g1'⟩ := (on_btw hc hp).1 ht
    -- all four ends are on both lines
    have hpar : (bx - ax) * (cy - dy) = (bz - ay) * (cx - dx) := by grind
    have hc1 : crs ax ay bx bz cx cy = 0 := by
      have t := par_trans ht0 (px := bx - ax) (py := bz - ay) hpar (qx := cx - px) (qy := cy - py) (by unfold crs at g1; grind)
      unfold crs at *
      grind
    have hd1 : crs ax ay bx bz dx dy = 0 := by
      have t := par_trans ht0 (px := bx - ax) (py := bz - ay) hpar (qx := dx - px) (qy := dy - py) (by unfold crs at g1; grind)
      unfold crs at *
      grind
    have ha1 : crs cx cy dx dy ax ay = 0 := by
      have t := par_trans hs0 (px := dx - cx) (py := dy - cy) (by grind) (qx := ax - px) (qy := ay - py) (by unfold crs at h1; grind)
      unfold crs at *
      grind
    have hb1 : crs cx cy dx dy bx bz = 0 := by
      have t := par_trans hs0 (px := dx - cx) (py := dy - cy) (by grind) (qx := bx - px) (qy := bz - py) (by unfold crs at h1; grind)
      unfold crs at *
      grind
    have oc := @on_btw ax ay bx bz cx cy ha hc
    have od := @on_btw ax ay bx bz dx dy ha hd
    have oa := @on_btw cx cy dx dy ax ay hc ha
    have ob := @on_btw cx cy dx dy bx bz hc hb
    have sa := @on_end_l ax ay bx bz
    have sb := @on_end_r ax ay bx bz
    have tc := @on_end_l cx cy dx dy
    have td := @on_end_r cx cy dx dy
    simp only [hc1, hd1, ha1, hb1, true_and] at oc od oa ob
    unfold Btw at *
    have lo : (key ax ay ≤ key px py ∧ On cx cy dx dy ax ay) ∨ (key bx bz ≤ key px py ∧ On cx cy dx dy bx bz) ∨ (key cx cy ≤ key px py ∧ On ax ay bx bz cx cy) ∨ (key dx dy ≤ key px py ∧ On ax ay bx bz dx dy) := by
      rw [oa, ob, oc, od]
      omega
    have hi : (key px py ≤ key ax ay ∧ On cx cy dx dy ax ay) ∨ (key px py ≤ key bx bz ∧ On cx cy dx dy bx bz) ∨ (key px py ≤ key cx cy ∧ On ax ay bx bz cx cy) ∨ (key px py ≤ key dx dy ∧ On ax ay bx bz dx dy) := by
      rw [oa, ob, oc, od]
      omega
    refine ⟨?_, ?_⟩
    · rcases lo with ⟨k, o⟩ | ⟨k, o⟩ | ⟨k, o⟩ | ⟨k, o⟩
      · exact ⟨_, _, .inl ⟨rfl, rfl⟩, sa, o, k⟩
      · exact ⟨_, _, .inr (.inl ⟨rfl, rfl⟩), sb, o, k⟩
      · exact ⟨_, _, .inr (.inr (.inl ⟨rfl, rfl⟩)), o, tc, k⟩
      · exact ⟨_, _, .inr (.inr (.inr ⟨rfl, rfl⟩)), o, td, k⟩
    · rcases hi with ⟨k, o⟩ | ⟨k, o⟩ | ⟨k, o⟩ | ⟨k, o⟩
      · exact ⟨_, _, .inl ⟨rfl, rfl⟩, sa, o, k⟩
      · exact ⟨_, _, .inr (.inl ⟨rfl, rfl⟩), sb, o, k⟩
      · exact ⟨_, _, .inr (.inr (.inl ⟨rfl, rfl⟩)), o, tc, k⟩
      · exact ⟨_, _, .inr (.inr (.inr ⟨rfl, rfl⟩)), o, td, k⟩
  · right
    exact ⟨parts_of hs.1 ht hD e3 e4, parts_of ht.1 hs (by grind) e1 e2⟩
/-- an end of the second one on the first one: not strictly on different sides -/
theorem not_parts {ax ay bx bz cx cy dx dy x y : Int} (h : crs ax ay bx bz x y = 0) (e : (x = cx ∧ y = cy) ∨ (x = dx ∧ y = dy)) : ¬ Prt ax ay bx bz cx cy dx dy := by
  unfold Prt
  rcases e with ⟨rfl, rfl⟩ | ⟨rfl, rfl⟩ <;> rw [h] <;> simp
/-- a common end: the segments do not cross -/
theorem end_not_cross {ax ay bx bz cx cy dx dy x y : Int} (e : (x = ax ∧ y = ay) ∨ (x = bx ∧ y = bz) ∨ (x = cx ∧ y = cy) ∨ (x = dx ∧ y = dy)) (hs : On ax ay bx bz x y) (ht : On cx cy dx dy x y) :
    ¬ (Prt ax ay bx bz cx cy dx dy ∧ Prt cx cy dx dy ax ay bx bz) := by
  rintro ⟨h, g⟩
  rcases e with e | e | e | e
  · exact not_parts ht.1 (.inl e) g
  · exact not_parts ht.1 (.inr e) g
  · exact not_parts hs.1 (.inl e) h
  · exact not_parts hs.1 (.inr e) h
/-- two different points of a segment: the third one is on their line -/
theorem on_line {ax ay bx bz x y z t px py : Int} (h1 : On ax ay bx bz x y) (h2 : On ax ay bx bz z t) (h3 : On ax ay bx bz px py) (hne : ¬ (x = z ∧ y = t)) : crs x y z t px py = 0 := by
  have hs0 : ¬ (bx - ax = 0 ∧ bz - ay = 0) := by
    intro h
    obtain ⟨rfl, rfl⟩ : bx = ax ∧ bz = ay := by omega
    have := on_degen h1
    have := on_degen h2
    omega
  obtain ⟨h1, _⟩ := h1
  obtain ⟨h2, _⟩ := h2
  obtain ⟨h3, _⟩ := h3
  have g1 : (bx - ax) * (t - y) = (bz - ay) * (z - x) := by unfold crs at *; grind
  have g2 : (bx - ax) * (py - y) = (bz - ay) * (px - x) := by unfold crs at *; grind
  have := par_trans hs0 (px := z - x) (py := t - y) (by grind) g2
  unfold crs
  omega
/-- between two points of a segment -/
theorem on_mid {ax ay bx bz x y z t px py : Int} (ha : Lm ax ay) (hx : Lm x y) (hz : Lm z t) (hp : Lm px py) (h1 : On ax ay bx bz x y) (h2 : On ax ay bx bz z t) (h3 : On x y z t px py) (hne : ¬ (x = z ∧ y = t)) : On ax ay bx bz px py := by
  have k1 := ((on_btw ha hx).1 h1)
  have k2 := ((on_btw ha hz).1 h2)
  have k3 := ((on_btw hx hp).1 h3)
  refine (on_btw ha hp).2 ⟨?_, ?_⟩
  · have w0 : ¬ (z - x = 0 ∧ t - y = 0) := by omega
    have g0 : (bx - ax) * (t - y) = (bz - ay) * (z - x) := by
      have := k1.1
      have := k2.1
      unfold crs at *
      grind
    have := par_trans w0 (px := bx - ax) (py := bz - ay) g0 (qx := px - x) (qy := py - y) (by
      have := k3.1
      unfold crs at this
      omega)
    have := k1.1
    unfold crs at *
    grind
  · have := k1.2
    have := k2.2
    have := k3.2
    unfold Btw at *
    omega
end Go.Proofs.Ythbgapcplgigoaa.G

namespace Go.Proofs.Ythbgapcplgigoaa.G
open Go.RowKit Go.Proofs.Ythbgapcplgigoaa.V Go.Proofs.Ythbgapcplgigoaa.W

def crsP (a b c : Pt) : Int := crs a.1 a.2 b.1 b.2 c.1 c.2
def sqP (a b : Pt) : Int := (b.1 - a.1) * (b.1 - a.1) + (b.2 - a.2) * (b.2 - a.2)
/-- convex: each vertex lies strictly to the left of each edge that it is no end of -/
def ConvP (r : List Pt) : Prop := 3 ≤ r.length ∧ ∀ i k, i < r.length → k < r.length → k ≠ i → k ≠ (i + 1) % r.length → 0 < crsP (at_ r i) (at_ r ((i + 1) % r.length)) (at_ r k)
/-- inside or on the boundary -/
def InP (r : List Pt) (p : Pt) : Prop := ∀ i, i < r.length → 0 ≤ crsP (at_ r i) (at_ r ((i + 1) % r.length)) p
theorem crsP_swap (p q x : Pt) : crsP p q x = -crsP p x q := by unfold crsP crs; grind
theorem sq_zero {a b : Pt} (h : sqP a b = 0) : a = b := by
  unfold sqP at h
  have h1 := sq_nonneg (b.1 - a.1)
  have h2 := sq_nonneg (b.2 - a.2)
  have e1 : b.1 - a.1 = 0 := by
    rcases Int.mul_eq_zero.1 (show (b.1 - a.1) * (b.1 - a.1) = 0 by omega) with h | h <;> exact h
  have e2 : b.2 - a.2 = 0 := by
    rcases Int.mul_eq_zero.1 (show (b.2 - a.2) * (b.2 - a.2) = 0 by omega) with h | h <;> exact h
  exact Prod.ext (by omega) (by omega)
theorem sq_diff (A E : Int) : (A - E) * (A + E) = A * A - E * E := by grind
/-- a point on the line of an edge between the edges before and behind it -/
theorem edge_part {u p q w x : Pt} (hx : crsP p q x = 0) (h1 : 0 < crsP u p q) (h2 : 0 ≤ crsP u p x) (h3 : 0 < crsP q w p) (h4 : 0 ≤ crsP q w x) : sqP p x ≤ sqP p q ∧ (sqP p x = sqP p q → x = q) := by
  obtain ⟨u1, u2⟩ := u
  obtain ⟨p1, p2⟩ := p
  obtain ⟨q1, q2⟩ := q
  obtain ⟨w1, w2⟩ := w
  obtain ⟨x1, x2⟩ := x
  unfold crsP crs at *
  unfold sqP
  simp only at *
  obtain ⟨d1, hd1⟩ : ∃ d, q1 - p1 = d := ⟨_, rfl⟩
  obtain ⟨d2, hd2⟩ : ∃ d, q2 - p2 = d := ⟨_, rfl⟩
  obtain ⟨e1, he1⟩ : ∃ d, x1 - p1 = d := ⟨_, rfl⟩
  obtain ⟨e2, he2⟩ : ∃ d, x2 - p2 = d := ⟨_, rfl⟩
  obtain ⟨A, hA⟩ : ∃ A, (p1 - u1) * (q2 - u2) - (p2 - u2) * (q1 - u1) = A := ⟨_, rfl⟩
  obtain ⟨E, hE⟩ : ∃ A, (p1 - u1) * (x2 - u2) - (p2 - u2) * (x1 - u1) = A := ⟨_, rfl⟩
  obtain ⟨B, hB⟩ : ∃ A, (w1 - q1) * (p2 - q2) - (w2 - q2) * (p1 - q1) = A := ⟨_, rfl⟩
  obtain ⟨F, hF⟩ : ∃ A, (w1 - q1) * (x2 - q2) - (w2 - q2) * (x1 - q1) = A := ⟨_, rfl⟩
  rw [hA] at h1
  rw [hE] at h2
  rw [hB] at h3
  rw [hF] at h4
  rw [hd1, hd2, he1, he2] at hx ⊢
  have k1 : A * e1 = E * d1 := by subst hA hE hd1 hd2 he1 he2; grind
  have k2 : A * e2 = E * d2 := by subst hA hE hd1 hd2 he1 he2; grind
  have k3 : B * (d1 - e1) = F * d1 := by subst hB hF hd1 hd2 he1 he2; grind
  have k4 : B * (d2 - e2) = F * d2 := by subst hB hF hd1 hd2 he1 he2; grind
  have hd : ¬ (d1 = 0 ∧ d2 = 0) := by
    rintro ⟨rfl, rfl⟩
    have e3 : q1 = p1 := by omega
    have e4 : q2 = p2 := by omega
    subst e3 e4
    have : A = 0 := by subst hA; grind
    omega
  have key : A * B = B * E + A * F := by
    have m1 : (A * B - B * E - A * F) * d1 = 0 := by grind
    have m2 : (A * B - B * E - A * F) * d2 = 0 := by grind
    have hz : A * B - B * E - A * F = 0 := by
      by_cases hc : d1 = 0
      · exact (Int.mul_eq_zero.1 m2).resolve_right (fun h => hd ⟨hc, h⟩)
      · exact (Int.mul_eq_zero.1 m1).resolve_right hc
    omega
  have hle : E ≤ A := by
    have t1 := Int.mul_nonneg (Int.le_of_lt h1) h4
    have t2 : B * (A - E) = A * F := by grind
    have t3 : 0 ≤ A - E := by
      rcases Int.lt_or_le (A - E) 0 with c | c
      · have := Int.mul_neg_of_pos_of_neg h3 c
        omega
      · exact c
    omega
  have hs : A * A * (e1 * e1 + e2 * e2) = E * E * (d1 * d1 + d2 * d2) := by grind
  have hEE : E * E ≤ A * A := Int.mul_le_mul hle hle h2 (by omega)
  have hdp := sum_pos hd
  have hAA : 0 < A * A := Int.mul_pos h1 h1
  constructor
  · rcases Int.lt_or_le (d1 * d1 + d2 * d2) (e1 * e1 + e2 * e2) with c | c
    · have t1 := Int.mul_lt_mul_of_pos_left c hAA
      have t2 := Int.mul_le_mul_of_nonneg_right hEE (Int.le_of_lt hdp)
      omega
    · exact c
  · intro heq
    rw [heq] at hs
    have hE2 : A * A = E * E := Int.eq_of_mul_eq_mul_right (by omega) hs
    have hEA : E = A := by
      have t : (A - E) * (A + E) = 0 := by rw [sq_diff]; omega
      rcases Int.mul_eq_zero.1 t with c | c <;> omega
    subst hEA
    have f1 : e1 = d1 := Int.eq_of_mul_eq_mul_left (by omega) k1
    have f2 : e2 = d2 := Int.eq_of_mul_eq_mul_left (by omega) k2
    exact Prod.ext (by simp only; omega) (by simp only; omega)
section
variable {r : List Pt} (hr : ConvP r)
include hr
theorem conv_next {i : Nat} (hi : i < r.length) : at_ r i ≠ at_ r ((i + 1) % r.length) := by
  obtain ⟨h3, hc⟩ := hr
  intro e
  obtain ⟨k, hk, h1, h2⟩ : ∃ k, k < r.length ∧ k ≠ i ∧ k ≠ (i + 1) % r.length := by
    rcases Nat.lt_or_ge (i + 1) r.length with c | c
    · rw [Nat.mod_eq_of_lt c]
      rcases Nat.lt_or_ge (i + 2) r.length with d | d
      · exact ⟨i + 2, d, by omega, by omega⟩
      · exact ⟨0, by omega, by omega, by omega⟩
    · rw [show i + 1 = r.length by omega, Nat.mod_self]
      exact ⟨1, by omega, by omega, by omega⟩
  have := hc i k hi hk h1 h2
  rw [← e] at this
  unfold crsP crs at this
  have z : (at_ r i).1 - (at_ r i).1 = 0 := by omega
  have z2 : (at_ r i).2 - (at_ r i).2 = 0 := by omega
  rw [z, z2, Int.zero_mul, Int.zero_mul] at this
  omega
/-- what lies on the line of an edge, and in the ring, is no farther than the edge's end -/
theorem conv_edge {i : Nat} (hi : i < r.length) {x : Pt} (hx : InP r x) (h0 : crsP (at_ r i) (at_ r ((i + 1) % r.length)) x = 0) :
    sqP (at_ r i) x ≤ sqP (at_ r i) (at_ r ((i + 1) % r.length)) ∧ (sqP (at_ r i) x = sqP (at_ r i) (at_ r ((i + 1) % r.length)) → x = at_ r ((i + 1) % r.length)) := by
  obtain ⟨h3, hc⟩ := hr
  have hn : 0 < r.length := by omega
  have hi' := Nat.mod_lt (i + 1) hn
  obtain ⟨j, hj, hji⟩ : ∃ j, j < r.length ∧ (j + 1) % r.length = i := by
    rcases Nat.eq_zero_or_pos i with c | c
    · exact ⟨r.length - 1, by omega, by rw [show r.length - 1 + 1 = r.length by omega, Nat.mod_self]; exact c.symm⟩
    · exact ⟨i - 1, by omega, by rw [show i - 1 + 1 = i by omega, Nat.mod_eq_of_lt hi]⟩
  have nx : ∀ k, k < r.length → (k + 1) % r.length = if k + 1 = r.length then 0 else k + 1 := fun k hk => by
    split
    · rename_i h; rw [h, Nat.mod_self]
    · rw [Nat.mod_eq_of_lt (by omega)]
  have a1 := hc j ((i + 1) % r.length) hj hi' (by rw [nx j hj] at hji; rw [nx i hi]; split at hji <;> split <;> omega) (by rw [hji, nx i hi]; split <;> omega)
  have a2 := hx j hj
  rw [hji] at a1 a2
  obtain ⟨m, hm⟩ : ∃ m, (i + 1) % r.length = m := ⟨_, rfl⟩
  rw [hm] at hi' a1 h0 ⊢
  have a3 := hc m i hi' hi (by rw [nx i hi] at hm; split at hm <;> omega) (by rw [nx m hi']; rw [nx i hi] at hm; split at hm <;> split <;> omega)
  have a4 := hx m hi'
  exact edge_part h0 a1 a2 a3 a4
end
/-- one step of the search for the next vertex -/
def nextStep (p q x : Pt) : Pt := if x = p then q else if q = p then x else if crsP p q x < 0 ∨ crsP p q x = 0 ∧ sqP p q < sqP p x then x else q
def nextTo (l : List Pt) (p : Pt) : Pt := l.foldl (nextStep p) p
section
variable {r : List Pt} (hr : ConvP r) {l : List Pt} (hin : ∀ x ∈ l, InP r x) {i : Nat} (hi : i < r.length)
include hr hin hi
theorem next_stays : ∀ (m : List Pt), (∀ x ∈ m, x ∈ l) → m.foldl (nextStep (at_ r i)) (at_ r ((i + 1) % r.length)) = at_ r ((i + 1) % r.length)
  | [], _ => rfl
  | x :: m, h => by
    have hx := hin x (h x List.mem_cons_self)
    rw [List.foldl_cons]
    have e : nextStep (at_ r i) (at_ r ((i + 1) % r.length)) x = at_ r ((i + 1) % r.length) := by
      unfold nextStep
      split
      · rfl
      · rw [if_neg (Ne.symm (conv_next hr hi)), if_neg]
        rintro (c | ⟨c, d⟩)
        · have := hx i hi
          omega
        · have := (conv_edge hr hi hx c).1
          omega
    rw [e]
    exact next_stays m fun y hy => h y (List.mem_cons_of_mem _ hy)
theorem next_found : ∀ (m : List Pt) (q : Pt), (∀ x ∈ m, x ∈ l) → (q = at_ r i ∨ q ∈ l) → at_ r ((i + 1) % r.length) ∈ m → m.foldl (nextStep (at_ r i)) q = at_ r ((i + 1) % r.length)
  | [], _, _, _, h => by cases h
  | x :: m, q, h, hq, hm => by
    rw [List.foldl_cons]
    by_cases hx : x = at_ r ((i + 1) % r.length)
    · have e : nextStep (at_ r i) q x = at_ r ((i + 1) % r.length) := by
        rw [hx]
        unfold nextStep
        rw [if_neg (Ne.symm (conv_next hr hi))]
        split
        · rfl
        · rename_i hqp
          rcases hq with hq | hq
          · exact absurd hq hqp
          · have hqi := hin q hq
            have h1 := hqi i hi
            split
            · rfl
            · rename_i hno
              have h0 : crsP (at_ r i) q (at_ r ((i + 1) % r.length)) = 0 := by
                have := crsP_swap (at_ r i) q (at_ r ((i + 1) % r.length))
                rcases Int.lt_trichotomy (crsP (at_ r i) q (at_ r ((i + 1) % r.length))) 0 with c | c | c
                · exact absurd (.inl c) hno
                · exact c
                · omega
              have h0' : crsP (at_ r i) (at_ r ((i + 1) % r.length)) q = 0 := by
                have := crsP_swap (at_ r i) q (at_ r ((i + 1) % r.length))
                omega
              obtain ⟨g1, g2⟩ := conv_edge hr hi hqi h0'
              refine g2 ?_
              rcases Int.lt_or_eq_of_le g1 with c | c
              · exact absurd (.inr ⟨h0, c⟩) hno
              · exact c
      rw [e]
      exact next_stays hr hin hi m fun y hy => h y (List.mem_cons_of_mem _ hy)
    · have hm' : at_ r ((i + 1) % r.length) ∈ m := by
        rcases List.mem_cons.1 hm with c | c
        · exact absurd c.symm hx
        · exact c
      refine next_found m _ (fun y hy => h y (List.mem_cons_of_mem _ hy)) ?_ hm'
      unfold nextStep
      split
      · exact hq
      · split
        · exact .inr (h x List.mem_cons_self)
        · split
          · exact .inr (h x List.mem_cons_self)
          · exact hq
/-- the search finds the next vertex -/
theorem next_vertex (hv : ∀ k, k < r.length → at_ r k ∈ l) : nextTo l (at_ r i) = at_ r ((i + 1) % r.length) :=
  next_found hr hin hi l _ (fun _ h => h) (.inl rfl) (hv _ (Nat.mod_lt _ (by omega)))
end
/-- the order of points: by the second coordinate, then by the first -/
def LeP (a b : Pt) : Prop := a.2 < b.2 ∨ a.2 = b.2 ∧ a.1 ≤ b.1
theorem le_antisymm' {a b : Pt} (h : LeP a b) (g : LeP b a) : a = b := by
  unfold LeP at h g
  exact Prod.ext (by omega) (by omega)
/-- a point between two rays from p whose ends are not less than p is not less than p -/
theorem cone_le {u p w m : Pt} (h1 : 0 < crsP p w u) (hu : LeP p u) (hw : LeP p w) (h2 : 0 ≤ crsP p w m) (h3 : 0 ≤ crsP u p m) : LeP p m := by
  obtain ⟨u1, u2⟩ := u
  obtain ⟨p1, p2⟩ := p
  obtain ⟨w1, w2⟩ := w
  obtain ⟨m1, m2⟩ := m
  unfold crsP crs at *
  unfold LeP at *
  simp only at *
  obtain ⟨a1, ha1⟩ : ∃ d, u1 - p1 = d := ⟨_, rfl⟩
  obtain ⟨a2, ha2⟩ : ∃ d, u2 - p2 = d := ⟨_, rfl⟩
  obtain ⟨b1, hb1⟩ : ∃ d, w1 - p1 = d := ⟨_, rfl⟩
  obtain ⟨b2, hb2⟩ : ∃ d, w2 - p2 = d := ⟨_, rfl⟩
  obtain ⟨c1, hc1⟩ : ∃ d, m1 - p1 = d := ⟨_, rfl⟩
  obtain ⟨c2, hc2⟩ : ∃ d, m2 - p2 = d := ⟨_, rfl⟩
  have e1 : (p1 - u1) * (m2 - u2) - (p2 - u2) * (m1 - u1) = c1 * a2 - c2 * a1 := by subst ha1 ha2 hc1 hc2; grind
  rw [hb1, ha2, hb2, ha1] at h1
  rw [hb1, hc2, hb2, hc1] at h2
  rw [e1] at h3
  obtain ⟨D, hD⟩ : ∃ D, b1 * a2 - b2 * a1 = D := ⟨_, rfl⟩
  obtain ⟨al, hal⟩ : ∃ D, c1 * a2 - c2 * a1 = D := ⟨_, rfl⟩
  obtain ⟨be, hbe⟩ : ∃ D, b1 * c2 - b2 * c1 = D := ⟨_, rfl⟩
  rw [hD] at h1
  rw [hbe] at h2
  rw [hal] at h3
  have k1 : D * c1 = al * b1 + be * a1 := by subst hD hal hbe; grind
  have k2 : D * c2 = al * b2 + be * a2 := by subst hD hal hbe; grind
  have s1 : 0 ≤ a2 := by omega
  have s2 : 0 ≤ b2 := by omega
  have t1 := Int.mul_nonneg h3 s2
  have t2 := Int.mul_nonneg h2 s1
  have c1n : 0 ≤ c2 := by
    rcases Int.lt_or_le c2 0 with c | c
    · have := Int.mul_neg_of_pos_of_neg h1 c
      omega
    · exact c
  rcases Int.lt_or_eq_of_le c1n with c | c
  · left; omega
  · right
    refine ⟨by omega, ?_⟩
    have z : al * b2 + be * a2 = 0 := by rw [← k2, ← c, Int.mul_zero]
    have z1 : al * b2 = 0 := by omega
    have z2 : be * a2 = 0 := by omega
    have y1 : 0 ≤ al * b1 := by
      rcases Int.mul_eq_zero.1 z1 with h | h
      · rw [h, Int.zero_mul]; exact Int.le_refl _
      · exact Int.mul_nonneg h3 (by omega)
    have y2 : 0 ≤ be * a1 := by
      rcases Int.mul_eq_zero.1 z2 with h | h
      · rw [h, Int.zero_mul]; exact Int.le_refl _
      · exact Int.mul_nonneg h2 (by omega)
    have c2n : 0 ≤ c1 := by
      rcases Int.lt_or_le c1 0 with c | c
      · have := Int.mul_neg_of_pos_of_neg h1 c
        omega
      · exact c
    omega
theorem le_refl' (a : Pt) : LeP a a := .inr ⟨rfl, Int.le_refl _⟩
/-- if vertex i is the least vertex, every point in the ring is not less -/
theorem least_vertex {r : List Pt} (hr : ConvP r) {i : Nat} (hi : i < r.length) (hl : ∀ k, k < r.length → LeP (at_ r i) (at_ r k)) {m : Pt} (hm : InP r m) : LeP (at_ r i) m := by
  obtain ⟨h3, hc⟩ := hr
  have hn : 0 < r.length := by omega
  have hi' := Nat.mod_lt (i + 1) hn
  have nx : ∀ k, k < r.length → (k + 1) % r.length = if k + 1 = r.length then 0 else k + 1 := fun k hk => by
    split
    · rename_i h; rw [h, Nat.mod_self]
    · rw [Nat.mod_eq_of_lt (by omega)]
  obtain ⟨j, hj, hji⟩ : ∃ j, j < r.length ∧ (j + 1) % r.length = i := by
    rcases Nat.eq_zero_or_pos i with c | c
    · exact ⟨r.length - 1, by omega, by rw [show r.length - 1 + 1 = r.length by omega, Nat.mod_self]; exact c.symm⟩
    · exact ⟨i - 1, by omega, by rw [show i - 1 + 1 = i by omega, Nat.mod_eq_of_lt hi]⟩
  have a1 := hc i j hi hj (by rw [nx j hj] at hji; split at hji <;> omega) (by rw [nx j hj] at hji; rw [nx i hi]; split at hji <;> split <;> omega)
  have a2 := hm i hi
  have a3 := hm j hj
  rw [hji] at a3
  exact cone_le a1 (hl j hj) (hl _ hi') a2 a3
end Go.Proofs.Ythbgapcplgigoaa.G

namespace Go.Proofs.Ythbgapcplgigoaa.G
open Go.RowKit Go.Proofs.Ythbgapcplgigoaa.V Go.Proofs.Ythbgapcplgigoaa.W

theorem conv_distinct {r : List Pt} (hr : ConvP r) {i j : Nat} (hi : i < r.length) (hj : j < r.length) (h : at_ r i = at_ r j) : i = j := by
  rcases Nat.lt_trichotomy i j with c | c | c
  · exfalso
    by_cases hn : j = (i + 1) % r.length
    · rw [hn] at h
      exact conv_next hr hi h
    · have := hr.2 i j hi hj (by omega) hn
      rw [← h] at this
      unfold crsP crs at this
      have e : ∀ (a b : Pt), (b.1 - a.1) * (a.2 - a.2) - (b.2 - a.2) * (a.1 - a.1) = 0 := fun a b => by grind
      rw [e] at this
      omega
  · exact c
  · exfalso
    by_cases hn : i = (j + 1) % r.length
    · rw [hn] at h
      exact conv_next hr hj h.symm
    · have := hr.2 j i hj hi (by omega) hn
      rw [h] at this
      unfold crsP crs at this
      have e : ∀ (a b : Pt), (b.1 - a.1) * (a.2 - a.2) - (b.2 - a.2) * (a.1 - a.1) = 0 := fun a b => by grind
      rw [e] at this
      omega
/-- r is the hull of l, from its least vertex on -/
structure HullP (l r : List Pt) : Prop where
  conv : ConvP r
  mem : ∀ k, k < r.length → at_ r k ∈ l
  all : ∀ x ∈ l, InP r x
  low : ∀ k, k < r.length → LeP (at_ r 0) (at_ r k)
theorem HullP.first {l r : List Pt} (h : HullP l r) : at_ r 0 ∈ l ∧ ∀ x ∈ l, LeP (at_ r 0) x :=
  have h0 : 0 < r.length := by have := h.conv.1; omega
  ⟨h.mem 0 h0, fun x hx => least_vertex h.conv h0 h.low (h.all x hx)⟩
theorem HullP.next {l r : List Pt} (h : HullP l r) {i : Nat} (hi : i < r.length) : nextTo l (at_ r i) = at_ r ((i + 1) % r.length) := next_vertex h.conv h.all hi h.mem
theorem hull_start {l r s : List Pt} (h : HullP l r) (g : HullP l s) : at_ r 0 = at_ s 0 := le_antisymm' (h.first.2 _ g.first.1) (g.first.2 _ h.first.1)
theorem hull_same {l r s : List Pt} (h : HullP l r) (g : HullP l s) : ∀ i, i < r.length → i < s.length → at_ r i = at_ s i
  | 0, _, _ => hull_start h g
  | i + 1, hi, hj => by
    have e := hull_same h g i (by omega) (by omega)
    have e1 := h.next (i := i) (by omega)
    have e2 := g.next (i := i) (by omega)
    rw [Nat.mod_eq_of_lt hi] at e1
    rw [Nat.mod_eq_of_lt hj] at e2
    rw [← e1, ← e2, e]
theorem hull_le {l r s : List Pt} (h : HullP l r) (g : HullP l s) : s.length ≤ r.length := by
  rcases Nat.lt_or_ge r.length s.length with c | c
  · exfalso
    have h3 := h.conv.1
    have e := hull_same h g (r.length - 1) (by omega) (by omega)
    have e1 := h.next (i := r.length - 1) (by omega)
    have e2 := g.next (i := r.length - 1) (by omega)
    rw [show r.length - 1 + 1 = r.length by omega, Nat.mod_self] at e1
    rw [show r.length - 1 + 1 = r.length by omega, Nat.mod_eq_of_lt c] at e2
    rw [e, e2, hull_start h g] at e1
    have := conv_distinct g.conv c (by omega) e1
    omega
  · exact c
/-- there is one hull -/
theorem hull_unique {l r s : List Pt} (h : HullP l r) (g : HullP l s) : r = s := by
  have e : r.length = s.length := Nat.le_antisymm (hull_le g h) (hull_le h g)
  apply List.ext_getElem?
  intro i
  rcases Nat.lt_or_ge i r.length with c | c
  · rw [at_some c, at_some (by omega), hull_same h g i c (by omega)]
  · rw [List.getElem?_eq_none c, List.getElem?_eq_none (by omega)]
/-- a linear function -/
def linP (g h : Int) (p : Pt) : Int := g * p.1 + h * p.2
theorem cone_lin {u p w m : Pt} (g h : Int) (h1 : 0 < crsP p w u) (hu : linP g h p ≤ linP g h u) (hw : linP g h p ≤ linP g h w) (h2 : 0 ≤ crsP p w m) (h3 : 0 ≤ crsP u p m) : linP g h p ≤ linP g h m := by
  have k : crsP p w u * (linP g h m - linP g h p) = crsP u p m * (linP g h w - linP g h p) + crsP p w m * (linP g h u - linP g h p) := by
    unfold crsP crs linP
    grind
  have t1 := Int.mul_nonneg h3 (show 0 ≤ linP g h w - linP g h p by omega)
  have t2 := Int.mul_nonneg h2 (show 0 ≤ linP g h u - linP g h p by omega)
  rcases Int.lt_or_le (linP g h m) (linP g h p) with c | c
  · have := Int.mul_neg_of_pos_of_neg h1 (show linP g h m - linP g h p < 0 by omega)
    omega
  · exact c
/-- an index at which a function of the vertices is least -/
theorem least_at (f : Nat → Int) : ∀ n, 0 < n → ∃ i, i < n ∧ ∀ k, k < n → f i ≤ f k
  | 1, _ => ⟨0, by omega, fun k hk => by obtain rfl : k = 0 := by omega
                                         exact Int.le_refl _⟩
  | n + 2, _ => by
    obtain ⟨i, hi, h⟩ := least_at f (n + 1) (by omega)
    rcases Int.lt_or_le (f (n + 1)) (f i) with c | c
    · refine ⟨n + 1, by omega, fun k hk => ?_⟩
      rcases Nat.lt_or_ge k (n + 1) with d | d
      · have := h k d; omega
      · obtain rfl : k = n + 1 := by omega
        exact Int.le_refl _
    · refine ⟨i, by omega, fun k hk => ?_⟩
      rcases Nat.lt_or_ge k (n + 1) with d | d
      · exact h k d
      · obtain rfl : k = n + 1 := by omega
        exact c
/-- in a convex ring a linear function is nowhere less than at the vertex where it is least -/
theorem lin_vertex {r : List Pt} (hr : ConvP r) (g h : Int) {i : Nat} (hi : i < r.length) (hl : ∀ k, k < r.length → linP g h (at_ r i) ≤ linP g h (at_ r k)) {m : Pt} (hm : InP r m) : linP g h (at_ r i) ≤ linP g h m := by
  obtain ⟨h3, hc⟩ := hr
  have hn : 0 < r.length := by omega
  have hi' := Nat.mod_lt (i + 1) hn
  have nx : ∀ k, k < r.length → (k + 1) % r.length = if k + 1 = r.length then 0 else k + 1 := fun k hk => by
    split
    · rename_i h; rw [h, Nat.mod_self]
    · rw [Nat.mod_eq_of_lt (by omega)]
  obtain ⟨j, hj, hji⟩ : ∃ j, j < r.length ∧ (j + 1) % r.length = i := by
    rcases Nat.eq_zero_or_pos i with c | c
    · exact ⟨r.length - 1, by omega, by rw [show r.length - 1 + 1 = r.length by omega, Nat.mod_self]; exact c.symm⟩
    · exact ⟨i - 1, by omega, by rw [show i - 1 + 1 = i by omega, Nat.mod_eq_of_lt hi]⟩
  have a1 := hc i j hi hj (by rw [nx j hj] at hji; split at hji <;> omega) (by rw [nx j hj] at hji; rw [nx i hi]; split at hji <;> split <;> omega)
  have a2 := hm i hi
  have a3 := hm j hj
  rw [hji] at a3
  exact cone_lin g h a1 (hl j hj) (hl _ hi') a2 a3
/-- a half plane that contains the vertices contains the ring -/
theorem lin_all {r : List Pt} (hr : ConvP r) {g h c : Int} (hv : ∀ k, k < r.length → c ≤ linP g h (at_ r k)) {m : Pt} (hm : InP r m) : c ≤ linP g h m := by
  obtain ⟨i, hi, hl⟩ := least_at (fun k => linP g h (at_ r k)) r.length (by have := hr.1; omega)
  exact Int.le_trans (hv i hi) (lin_vertex hr g h hi hl hm)
theorem crs_lin (a b p : Pt) : crsP a b p = linP (-(b.2 - a.2)) (b.1 - a.1) p - linP (-(b.2 - a.2)) (b.1 - a.1) a := by
  unfold crsP crs linP
  grind
/-- a ring that contains the vertices of another one contains it -/
theorem in_sub {r s : List Pt} (hr : ConvP r) (hv : ∀ k, k < r.length → InP s (at_ r k)) {m : Pt} (hm : InP r m) : InP s m := fun i hi => by
  have h := lin_all hr (g := -((at_ s ((i + 1) % s.length)).2 - (at_ s i).2)) (h := (at_ s ((i + 1) % s.length)).1 - (at_ s i).1) (c := linP (-((at_ s ((i + 1) % s.length)).2 - (at_ s i).2)) ((at_ s ((i + 1) % s.length)).1 - (at_ s i).1) (at_ s i)) (fun k hk => by
    have := hv k hk i hi
    rw [crs_lin] at this
    omega) hm
  rw [crs_lin]
  omega
/-- the square of a scalar product is at most the product of the squares -/
theorem cauchy (g h x y : Int) : (g * x + h * y) * (g * x + h * y) ≤ (x * x + y * y) * (g * g + h * h) := by
  have e : (x * x + y * y) * (g * g + h * h) - (g * x + h * y) * (g * x + h * y) = (g * y - h * x) * (g * y - h * x) := by grind
  have := sq_nonneg (g * y - h * x)
  omega
end Go.Proofs.Ythbgapcplgigoaa.G

namespace Go.Proofs.Ythbgapcplgigoaa.G
open Go.RowKit Go.Proofs.Ythbgapcplgigoaa.V Go.Proofs.Ythbgapcplgigoaa.W

def LtP (a b : Pt) : Prop := a.2 < b.2 ∨ a.2 = b.2 ∧ a.1 < b.1
theorem LtP.trans {a b c : Pt} (h : LtP a b) (g : LtP b c) : LtP a c := by
  unfold LtP at *
  omega
theorem lt_tri (a b : Pt) : LtP a b ∨ a = b ∨ LtP b a := by
  unfold LtP
  rcases Int.lt_trichotomy a.2 b.2 with h | h | h
  · exact .inl (.inl h)
  · rcases Int.lt_trichotomy a.1 b.1 with g | g | g
    · exact .inl (.inr ⟨h, g⟩)
    · exact .inr (.inl (Prod.ext g h))
    · exact .inr (.inr (.inr ⟨h.symm, g⟩))
  · exact .inr (.inr (.inl h))
/-- a vector to the right, or straight up -/
def Fwd (x y : Int) : Prop := 0 < y ∨ y = 0 ∧ 0 < x
theorem LtP.fwd {a b : Pt} (h : LtP a b) : Fwd (b.1 - a.1) (b.2 - a.2) := by
  unfold LtP at h
  unfold Fwd
  omega
theorem half_trans {u1 u2 v1 v2 w1 w2 : Int} (hu : Fwd u1 u2) (hv : Fwd v1 v2) (hw : Fwd w1 w2) (h : 0 ≤ u1 * v2 - u2 * v1) (g : 0 ≤ v1 * w2 - v2 * w1) : 0 ≤ u1 * w2 - u2 * w1 := by
  unfold Fwd at *
  have k : v2 * (u1 * w2 - u2 * w1) = u2 * (v1 * w2 - v2 * w1) + w2 * (u1 * v2 - u2 * v1) := by grind
  rcases hv with hv | ⟨hv, hv2⟩
  · have t1 := Int.mul_nonneg (show 0 ≤ u2 by omega) g
    have t2 := Int.mul_nonneg (show 0 ≤ w2 by omega) h
    rcases Int.lt_or_le (u1 * w2 - u2 * w1) 0 with c | c
    · have := Int.mul_neg_of_pos_of_neg hv c
      omega
    · exact c
  · subst hv
    rw [Int.mul_zero, Int.zero_sub] at h
    have hu1 : u2 = 0 := by
      rcases hu with hu | hu
      · have := Int.mul_pos hu hv2
        omega
      · exact hu.1
    subst hu1
    have := Int.mul_nonneg (show 0 ≤ u1 by omega) (show 0 ≤ w2 by omega)
    rw [Int.zero_mul]
    omega
theorem half_strict {u1 u2 v1 v2 w1 w2 : Int} (hu : Fwd u1 u2) (hv : Fwd v1 v2) (hw : Fwd w1 w2) (h : 0 < u1 * v2 - u2 * v1) (g : 0 ≤ v1 * w2 - v2 * w1) : 0 < u1 * w2 - u2 * w1 := by
  unfold Fwd at *
  have k : v2 * (u1 * w2 - u2 * w1) = u2 * (v1 * w2 - v2 * w1) + w2 * (u1 * v2 - u2 * v1) := by grind
  rcases hv with hv | ⟨hv, hv2⟩
  · have t1 := Int.mul_nonneg (show 0 ≤ u2 by omega) g
    rcases hw with hw | ⟨hw, hw2⟩
    · have t2 := Int.mul_pos hw h
      rcases Int.lt_or_le 0 (u1 * w2 - u2 * w1) with c | c
      · exact c
      · have := Int.mul_nonpos_of_nonneg_of_nonpos (Int.le_of_lt hv) c
        omega
    · subst hw
      rw [Int.mul_zero, Int.zero_sub] at g
      have := Int.mul_pos hv hw2
      omega
  · subst hv
    rw [Int.mul_zero, Int.zero_sub] at h
    have := Int.mul_nonneg (show 0 ≤ u2 by omega) (Int.le_of_lt hv2)
    omega
theorem crsP_vec (a b c : Pt) : crsP a b c = (b.1 - a.1) * (c.2 - a.2) - (b.2 - a.2) * (c.1 - a.1) := rfl
/-- behind b, an edge (a, b) -/
theorem crsP_at (a b c : Pt) : crsP a b c = (b.1 - a.1) * (c.2 - b.2) - (b.2 - a.2) * (c.1 - b.1) := by unfold crsP crs; grind
/-- a chain, its last point first: ascending, turning left, no point of P to the right of an edge -/
def Good (P : Pt → Prop) : List Pt → Prop
  | [] => True
  | [_] => True
  | b :: a :: r => LtP a b ∧ (∀ q, P q → 0 ≤ crsP a b q) ∧ (∀ z, r.head? = some z → 0 < crsP z a b) ∧ Good P (a :: r)
theorem Good.tail {P : Pt → Prop} {b : Pt} {r : List Pt} (h : Good P (b :: r)) : Good P r := by
  cases r with
  | nil => trivial
  | cons a r => exact h.2.2.2
/-- a point behind the chain that is to the left of its last edge is to the left of all -/
theorem left_below {P : Pt → Prop} {p : Pt} : ∀ (S : List Pt) (a b : Pt), Good P (b :: a :: S) → LtP b p → 0 ≤ crsP a b p → Good (fun q => P q ∨ q = p) (b :: a :: S)
  | [], a, b, h, hl, hp => ⟨h.1, fun q hq => hq.elim (h.2.1 q) fun e => e ▸ hp, h.2.2.1, trivial⟩
  | z :: S, a, b, h, hl, hp => by
    refine ⟨h.1, fun q hq => hq.elim (h.2.1 q) fun e => e ▸ hp, h.2.2.1, ?_⟩
    have g : Good P (a :: z :: S) := h.2.2.2
    refine left_below S z a g (h.1.trans hl) ?_
    have t := h.2.2.1 z rfl
    rw [crsP_at] at t ⊢
    exact half_trans g.1.fwd h.1.fwd (h.1.trans hl).fwd (Int.le_of_lt t) hp
/-- what does not turn left is popped -/
def popC (p : Pt) : List Pt → List Pt
  | [] => []
  | [a] => [a]
  | b :: a :: r => if crsP a b p ≤ 0 then popC p (a :: r) else b :: a :: r
theorem popC_mem {p x : Pt} : ∀ (S : List Pt), x ∈ popC p S → x ∈ S
  | [], h => h
  | [_], h => h
  | b :: a :: r, h => by
    unfold popC at h
    split at h
    · exact List.mem_cons_of_mem _ (popC_mem (a :: r) h)
    · exact h
theorem popC_ne {p : Pt} : ∀ (S : List Pt), S ≠ [] → popC p S ≠ []
  | [], h => h
  | [_], h => h
  | b :: a :: r, _ => by
    unfold popC
    split
    · exact popC_ne (a :: r) (by simp)
    · simp
theorem popC_last {p : Pt} : ∀ (S : List Pt), (popC p S).getLast? = S.getLast?
  | [] => rfl
  | [_] => rfl
  | b :: a :: r => by
    unfold popC
    split
    · rw [popC_last (a :: r), List.getLast?_cons_cons]
    · rfl
/-- the new point behind the popped chain -/
theorem pop_good {P : Pt → Prop} {p : Pt} (hp : ∀ q, P q → LtP q p) : ∀ (S : List Pt), S ≠ [] → (∀ x ∈ S, P x) → Good P S → (∀ z, S.getLast? = some z → ∀ q, P q → q = z ∨ LtP z q) →
    (∀ b, S.head? = some b → ∀ q, P q → LtP b q → 0 ≤ crsP b p q) → Good (fun q => P q ∨ q = p) (p :: popC p S)
  | [], h, _, _, _, _ => absurd rfl h
  | [a], _, hm, _, hlast, hc => by
    refine ⟨hp a (hm a List.mem_cons_self), fun q hq => ?_, fun z hz => (by cases hz), trivial⟩
    rcases hq with hq | rfl
    · rcases hlast a rfl q hq with rfl | h
      · unfold crsP crs; grind
      · exact hc a rfl q hq h
    · unfold crsP crs; grind
  | b :: a :: r, _, hm, hg, hlast, hc => by
    have hb := hp b (hm b List.mem_cons_self)
    have ha := hp a (hm a (by simp))
    unfold popC
    split
    · rename_i hle
      refine pop_good hp (a :: r) (by simp) (fun x hx => hm x (List.mem_cons_of_mem _ hx)) hg.tail (fun z hz => hlast z (by rw [List.getLast?_cons_cons]; exact hz)) fun c hc' q hq hlt => ?_
      obtain rfl : a = c := by simpa using hc'
      have h1 : 0 ≤ crsP a p b := by have := crsP_swap a b p; omega
      have h2 := hg.2.1 q hq
      rw [crsP_vec] at h1 h2 ⊢
      exact half_trans ha.fwd hg.1.fwd hlt.fwd h1 h2
    · rename_i hgt
      have hpos : 0 < crsP a b p := by omega
      refine ⟨hb, fun q hq => ?_, fun z hz => ?_, left_below r a b hg hb (Int.le_of_lt hpos)⟩
      · rcases hq with hq | rfl
        · rcases lt_tri q b with h | rfl | h
          · have h1 := hg.2.1 q hq
            have f1 := h.fwd
            have f2 := hg.1.fwd
            have f3 := hb.fwd
            have e1 : 0 ≤ (b.1 - q.1) * (b.2 - a.2) - (b.2 - q.2) * (b.1 - a.1) := by
              rw [crsP_at] at h1
              have e : (b.1 - q.1) * (b.2 - a.2) - (b.2 - q.2) * (b.1 - a.1) = (b.1 - a.1) * (q.2 - b.2) - (b.2 - a.2) * (q.1 - b.1) := by grind
              omega
            have e2 : 0 ≤ (b.1 - a.1) * (p.2 - b.2) - (b.2 - a.2) * (p.1 - b.1) := by
              rw [← crsP_at]
              omega
            have e3 := half_trans f1 f2 f3 e1 e2
            have e : crsP b p q = (b.1 - q.1) * (p.2 - b.2) - (b.2 - q.2) * (p.1 - b.1) := by unfold crsP crs; grind
            omega
          · unfold crsP crs; grind
          · exact hc b rfl q hq h
        · unfold crsP crs; grind
      · obtain rfl : a = z := by simpa using hz
        exact hpos
/-- the chain of some points in their order -/
def chainC (l : List Pt) : List Pt := l.foldl (fun S p => p :: popC p S) []
theorem chain_good : ∀ (l m S : List Pt), S ≠ [] → (∀ x, x ∈ S → x ∈ m) → (m ++ l).Pairwise LtP → Good (fun q => q ∈ m) S → (∀ z, S.getLast? = some z → m.head? = some z) → S.head? = m.getLast? →
    Good (fun q => q ∈ m ++ l) (l.foldl (fun S p => p :: popC p S) S) ∧ (∀ x ∈ l.foldl (fun S p => p :: popC p S) S, x ∈ m ++ l) ∧ (l.foldl (fun S p => p :: popC p S) S).getLast? = m.head? ∧ (l.foldl (fun S p => p :: popC p S) S).head? = (m ++ l).getLast? ∧ l.foldl (fun S p => p :: popC p S) S ≠ []
  | [], m, S, hne, hm, hs, hg, hl, hh => by
    rw [List.append_nil] at hs ⊢
    refine ⟨hg, hm, ?_, hh, hne⟩
    obtain ⟨z, hz⟩ : ∃ z, S.getLast? = some z := ⟨_, List.getLast?_eq_some_getLast hne⟩
    show S.getLast? = m.head?
    rw [hl z hz, hz]
  | p :: l, m, S, hne, hm, hs, hg, hl, hh => by
    have hs' : ((m ++ [p]) ++ l).Pairwise LtP := by simpa using hs
    have hlt : ∀ q, q ∈ m → LtP q p := fun q hq => by
      have := (List.pairwise_append.1 hs).2.2 q hq p List.mem_cons_self
      exact this
    have hmin : ∀ z, S.getLast? = some z → ∀ q, q ∈ m → q = z ∨ LtP z q := fun z hz q hq => by
      have hz' := hl z hz
      have hsm := (List.pairwise_append.1 hs).1
      match m, hz', hq, hsm with
      | y :: m', hz', hq, hsm =>
        obtain rfl : y = z := by simpa using hz'
        rcases List.mem_cons.1 hq with e | e
        · exact .inl e
        · exact .inr ((List.pairwise_cons.1 hsm).1 q e)
    have htop : ∀ b, S.head? = some b → ∀ q, q ∈ m → LtP b q → 0 ≤ crsP b p q := fun b hb q hq hlt' => by
      exfalso
      rw [hh] at hb
      have hsm := (List.pairwise_append.1 hs).1
      obtain ⟨m', rfl⟩ : ∃ m', m = m' ++ [b] := by
        have hmn : m ≠ [] := by intro e; rw [e] at hq; cases hq
        refine ⟨m.dropLast, ?_⟩
        have e := List.dropLast_concat_getLast hmn
        rw [List.getLast?_eq_some_getLast hmn] at hb
        rw [← Option.some.inj hb]
        exact e.symm
      rcases List.mem_append.1 hq with h | h
      · have := (List.pairwise_append.1 hsm).2.2 q h b List.mem_cons_self
        unfold LtP at this hlt'
        omega
      · obtain rfl : q = b := by simpa using h
        unfold LtP at hlt'
        omega
    have g := pop_good (P := fun q => q ∈ m) hlt S hne hm hg hmin htop
    have g' : Good (fun q => q ∈ m ++ [p]) (p :: popC p S) := by
      have e : (fun q => q ∈ m ∨ q = p) = (fun q => q ∈ m ++ [p]) := by
        funext q
        simp
      rw [← e]
      exact g
    have hlast : (p :: popC p S).getLast? = S.getLast? := by
      obtain ⟨y, t, ht⟩ : ∃ y t, popC p S = y :: t := by
        cases h : popC p S with
        | nil => exact absurd h (popC_ne S hne)
        | cons y t => exact ⟨y, t, rfl⟩
      rw [ht, List.getLast?_cons_cons, ← ht, popC_last]
    have hmne : m ≠ [] := by
      cases S with
      | nil => exact absurd rfl hne
      | cons x t => intro e; have := hm x List.mem_cons_self; rw [e] at this; cases this
    have hhead : (m ++ [p]).head? = m.head? := by
      cases m with
      | nil => exact absurd rfl hmne
      | cons y t => rfl
    have ih := chain_good l (m ++ [p]) (p :: popC p S) (by simp) (fun x hx => by
      rcases List.mem_cons.1 hx with rfl | h
      · simp
      · exact List.mem_append_left _ (hm x (popC_mem S h))) hs' g' (fun z hz => by rw [hlast] at hz; rw [hhead]; exact hl z hz) (by simp)
    rw [List.append_assoc] at ih
    rw [List.foldl_cons]
    rw [hhead] at ih
    exact ih
/-- the chain of ascending points -/
theorem chain_all {a : Pt} {l : List Pt} (hs : (a :: l).Pairwise LtP) : Good (fun q => q ∈ a :: l) (chainC (a :: l)) ∧ (∀ x ∈ chainC (a :: l), x ∈ a :: l) ∧ (chainC (a :: l)).getLast? = some a ∧ (chainC (a :: l)).head? = (a :: l).getLast? ∧ chainC (a :: l) ≠ [] :=
  chain_good l [a] [a] (by simp) (fun _ h => h) hs trivial (fun z hz => by simpa using hz) rfl
end Go.Proofs.Ythbgapcplgigoaa.G

namespace Go.Proofs.Ythbgapcplgigoaa.G
open Go.RowKit Go.Proofs.Ythbgapcplgigoaa.V Go.Proofs.Ythbgapcplgigoaa.W

theorem lin_zero {A E B F a b : Int} (hA : 0 < A) (hE : 0 < E) (hB : 0 < B) (hF : 0 < F) (ha : 0 ≤ a) (hb : 0 ≤ b) (h : -(A * a) = E * (b - a)) (g : B * b = F * (b - a)) : a = 0 := by
  rcases Int.lt_or_le 0 a with c | c
  · exfalso
    have t := Int.mul_pos hA c
    have hba : b - a < 0 := by
      rcases Int.lt_or_le (b - a) 0 with k | k
      · exact k
      · have := Int.mul_nonneg (Int.le_of_lt hE) k
        omega
    have t2 := Int.mul_neg_of_pos_of_neg hF hba
    have t3 := Int.mul_nonneg (Int.le_of_lt hB) hb
    omega
  · omega
/-- a point on an edge between its ends is no corner that has both ends on its left -/
theorem no_inner {u p q w x y v : Pt} (hx : crsP p q x = 0) (h1 : 0 < crsP u p q) (h2 : 0 ≤ crsP u p x) (h3 : 0 < crsP p q w) (h4 : 0 ≤ crsP q w x)
    (hk : 0 < crsP y x v) (p1 : 0 ≤ crsP y x p) (p2 : 0 ≤ crsP x v p) (q1 : 0 ≤ crsP y x q) (q2 : 0 ≤ crsP x v q) (np : x ≠ p) (nq : x ≠ q) : False := by
  obtain ⟨A, hA⟩ : ∃ A, crsP u p q = A := ⟨_, rfl⟩
  obtain ⟨E, hE⟩ : ∃ A, crsP u p x = A := ⟨_, rfl⟩
  obtain ⟨B, hB⟩ : ∃ A, crsP p q w = A := ⟨_, rfl⟩
  obtain ⟨F, hF⟩ : ∃ A, crsP q w x = A := ⟨_, rfl⟩
  rw [hA] at h1
  rw [hE] at h2
  rw [hB] at h3
  rw [hF] at h4
  have k1 : A * (x.1 - p.1) = E * (q.1 - p.1) := by subst hA hE; unfold crsP crs at *; grind
  have k2 : A * (x.2 - p.2) = E * (q.2 - p.2) := by subst hA hE; unfold crsP crs at *; grind
  have k3 : B * (q.1 - x.1) = F * (q.1 - p.1) := by subst hB hF; unfold crsP crs at *; grind
  have k4 : B * (q.2 - x.2) = F * (q.2 - p.2) := by subst hB hF; unfold crsP crs at *; grind
  have hE' : 0 < E := by
    rcases Int.lt_or_le 0 E with c | c
    · exact c
    · exfalso
      obtain rfl : E = 0 := by omega
      rw [Int.zero_mul] at k1 k2
      have e1 := (Int.mul_eq_zero.1 k1).resolve_left (by omega)
      have e2 := (Int.mul_eq_zero.1 k2).resolve_left (by omega)
      exact np (Prod.ext (by omega) (by omega))
  have hF' : 0 < F := by
    rcases Int.lt_or_le 0 F with c | c
    · exact c
    · exfalso
      obtain rfl : F = 0 := by omega
      rw [Int.zero_mul] at k3 k4
      have e1 := (Int.mul_eq_zero.1 k3).resolve_left (by omega)
      have e2 := (Int.mul_eq_zero.1 k4).resolve_left (by omega)
      exact nq (Prod.ext (by omega) (by omega))
  have a0 : crsP y x p = 0 := by
    refine lin_zero h1 hE' h3 hF' p1 q1 ?_ ?_
    · unfold crsP crs; grind
    · unfold crsP crs; grind
  have b0 : crsP x v p = 0 := by
    refine lin_zero h1 hE' h3 hF' p2 q2 ?_ ?_
    · unfold crsP crs; grind
    · unfold crsP crs; grind
  have e1 : crsP y x v * (p.1 - x.1) = 0 := by
    have : crsP y x v * (p.1 - x.1) = crsP y x p * (v.1 - x.1) - crsP x v p * (x.1 - y.1) := by unfold crsP crs; grind
    rw [this, a0, b0, Int.zero_mul, Int.zero_mul]; rfl
  have e2 : crsP y x v * (p.2 - x.2) = 0 := by
    have : crsP y x v * (p.2 - x.2) = crsP y x p * (v.2 - x.2) - crsP x v p * (x.2 - y.2) := by unfold crsP crs; grind
    rw [this, a0, b0, Int.zero_mul, Int.zero_mul]; rfl
  have f1 := (Int.mul_eq_zero.1 e1).resolve_left (by omega)
  have f2 := (Int.mul_eq_zero.1 e2).resolve_left (by omega)
  exact np (Prod.ext (by omega) (by omega))
theorem mod_succ {n i : Nat} (hi : i < n) : (i + 1) % n = if i + 1 = n then 0 else i + 1 := by
  split
  · rename_i h
    rw [h, Nat.mod_self]
  · exact Nat.mod_eq_of_lt (by omega)
/-- what turns left at each vertex, and has no vertex to the right of an edge -/
theorem conv_of {r : List Pt} (h3 : 3 ≤ r.length) (ht : ∀ i j k, i < r.length → j = (i + 1) % r.length → k = (j + 1) % r.length → 0 < crsP (at_ r i) (at_ r j) (at_ r k))
    (hin : ∀ k, k < r.length → InP r (at_ r k)) (hd : ∀ i j, i < r.length → j < r.length → at_ r i = at_ r j → i = j) : ConvP r := by
  have pred : ∀ j, j < r.length → ∃ i, i < r.length ∧ j = (i + 1) % r.length := fun j hj => by
    by_cases h0 : j = 0
    · refine ⟨r.length - 1, by omega, ?_⟩
      rw [mod_succ (by omega), if_pos (by omega)]
      exact h0
    · refine ⟨j - 1, by omega, ?_⟩
      rw [mod_succ (by omega), if_neg (by omega)]
      omega
  have lt : ∀ i, (i + 1) % r.length < r.length := fun i => Nat.mod_lt _ (by omega)
  refine ⟨h3, fun i k hi hk n1 n2 => ?_⟩
  have hge := hin k hk i hi
  rcases Int.lt_or_le 0 (crsP (at_ r i) (at_ r ((i + 1) % r.length)) (at_ r k)) with c | c
  · exact c
  · exfalso
    obtain ⟨a, ha, ea⟩ := pred i hi
    obtain ⟨b, hb, eb⟩ := pred k hk
    have hj := lt i
    have t1 := ht a i _ ha ea rfl
    have t2 := ht i _ _ hi rfl rfl
    have t3 := ht b k _ hb eb rfl
    have g1 := hin k hk a ha
    rw [← ea] at g1
    have g2 := hin k hk _ hj
    have g3 := hin i hi b hb
    have g4 := hin _ hj b hb
    rw [← eb] at g3 g4
    exact no_inner (by omega) t1 g1 t2 g2 t3 g3 (hin i hi k hk) g4 (hin _ hj k hk) (fun e => n1 (hd _ _ hk hi e)) (fun e => n2 (hd _ _ hk hj e))
end Go.Proofs.Ythbgapcplgigoaa.G
