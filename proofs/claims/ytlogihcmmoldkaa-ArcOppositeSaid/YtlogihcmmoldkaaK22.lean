/-
  seg, plain: the crossing of two segments, points in lowest terms; integers only, no program. Conditions stand at each lemma.
  seg, plain: the order of rational numbers and points; integers only, no program. Condition: positive denominators.
  seg and its reference: the greatest common divisor, points in lowest terms. Conditions: numbers within 2^62; the denominator is positive.
-/
import Derived.Test.YtlogihcmmoldkaaK21
import Derived.Test.YtlogihcmmoldkaaK05
namespace Go.Proofs.Ytlogihcmmoldkaa.G

/-- the denominator of the crossing of two lines -/
def denX (ax ay bx bz cx cy dx dy : Int) : Int := (bx - ax) * (dy - cy) - (bz - ay) * (dx - cx)
def numX (ax ay cx cy dx dy : Int) : Int := (cx - ax) * (dy - cy) - (cy - ay) * (dx - cx)
theorem crs_den (ax ay bx bz cx cy dx dy : Int) : crs ax ay bx bz dx dy - crs ax ay bx bz cx cy = denX ax ay bx bz cx cy dx dy := by
  unfold crs denX
  grind
theorem prt_den {ax ay bx bz cx cy dx dy : Int} (h : Prt ax ay bx bz cx cy dx dy) : denX ax ay bx bz cx cy dx dy ≠ 0 := by
  intro e
  have := crs_den ax ay bx bz cx cy dx dy
  unfold Prt at h
  rw [e] at this
  rw [show crs ax ay bx bz dx dy = crs ax ay bx bz cx cy by omega] at h
  have := sq_nonneg (crs ax ay bx bz cx cy)
  omega
/-- the numerator lies between 0 and the denominator -/
theorem num_between {ax ay bx bz cx cy dx dy : Int} (g : Prt cx cy dx dy ax ay bx bz) : 0 < numX ax ay cx cy dx dy ∧ numX ax ay cx cy dx dy < denX ax ay bx bz cx cy dx dy ∨ denX ax ay bx bz cx cy dx dy < numX ax ay cx cy dx dy ∧ numX ax ay cx cy dx dy < 0 := by
  unfold Prt at g
  have e1 : crs cx cy dx dy ax ay = numX ax ay cx cy dx dy := by unfold crs numX; grind
  have e2 : crs cx cy dx dy bx bz = numX ax ay cx cy dx dy - denX ax ay bx bz cx cy dx dy := by unfold crs numX denX; grind
  rw [e1, e2] at g
  generalize numX ax ay cx cy dx dy = n at *
  generalize denX ax ay bx bz cx cy dx dy = d at *
  rcases Int.lt_or_le 0 n with h | h
  · left
    refine ⟨h, ?_⟩
    rcases Int.lt_or_le n d with k | k
    · exact k
    · have := Int.mul_nonneg (show 0 ≤ n by omega) (show 0 ≤ n - d by omega)
      omega
  · right
    by_cases h0 : n = 0
    · rw [h0] at g; simp at g
    · refine ⟨?_, by omega⟩
      rcases Int.lt_or_le d n with k | k
      · exact k
      · have := Int.mul_nonneg_of_nonpos_of_nonpos (show n ≤ 0 by omega) (show n - d ≤ 0 by omega)
        omega
/-- a convex combination stays within -/
theorem mix_le {a b n d M : Int} (ha : -M ≤ a ∧ a ≤ M) (hb : -M ≤ b ∧ b ≤ M) (h0 : 0 ≤ n) (h1 : n ≤ d) : -(M * d) ≤ a * d + (b - a) * n ∧ a * d + (b - a) * n ≤ M * d := by
  have e : a * d + (b - a) * n = a * (d - n) + b * n := by grind
  have eM : M * d = M * (d - n) + M * n := by grind
  have eM' : -(M * d) = (-M) * (d - n) + (-M) * n := by grind
  have k1 := Int.mul_le_mul_of_nonneg_right ha.1 (show 0 ≤ d - n by omega)
  have k2 := Int.mul_le_mul_of_nonneg_right ha.2 (show 0 ≤ d - n by omega)
  have k3 := Int.mul_le_mul_of_nonneg_right hb.1 h0
  have k4 := Int.mul_le_mul_of_nonneg_right hb.2 h0
  rw [eM', eM, e]
  omega
/-- which integer points lie on both segments that cross -/
theorem cross_on {ax ay bx bz cx cy dx dy px py : Int} (h : Prt ax ay bx bz cx cy dx dy) (g : Prt cx cy dx dy ax ay bx bz) :
    (On ax ay bx bz px py ∧ On cx cy dx dy px py) ↔ ax * denX ax ay bx bz cx cy dx dy + (bx - ax) * numX ax ay cx cy dx dy = px * denX ax ay bx bz cx cy dx dy ∧ ay * denX ax ay bx bz cx cy dx dy + (bz - ay) * numX ax ay cx cy dx dy = py * denX ax ay bx bz cx cy dx dy := by
  constructor
  · rintro ⟨⟨h1, _⟩, ⟨g1, _⟩⟩
    unfold crs at h1 g1
    constructor
    · have : ax * denX ax ay bx bz cx cy dx dy + (bx - ax) * numX ax ay cx cy dx dy - px * denX ax ay bx bz cx cy dx dy = (dx - cx) * ((bx - ax) * (py - ay) - (bz - ay) * (px - ax)) - (bx - ax) * ((dx - cx) * (py - cy) - (dy - cy) * (px - cx)) := by
        unfold denX numX
        grind
      rw [h1, g1] at this
      simp at this
      omega
    · have : ay * denX ax ay bx bz cx cy dx dy + (bz - ay) * numX ax ay cx cy dx dy - py * denX ax ay bx bz cx cy dx dy = (dy - cy) * ((bx - ax) * (py - ay) - (bz - ay) * (px - ax)) - (bz - ay) * ((dx - cx) * (py - cy) - (dy - cy) * (px - cx)) := by
        unfold denX numX
        grind
      rw [h1, g1] at this
      simp at this
      omega
  · rintro ⟨e1, e2⟩
    have hD := prt_den h
    have hs : crs ax ay bx bz px py = 0 := by
      refine zero_of_mul (b := denX ax ay bx bz cx cy dx dy) ?_ hD
      have : crs ax ay bx bz px py * denX ax ay bx bz cx cy dx dy = (bx - ax) * (py * denX ax ay bx bz cx cy dx dy - ay * denX ax ay bx bz cx cy dx dy) - (bz - ay) * (px * denX ax ay bx bz cx cy dx dy - ax * denX ax ay bx bz cx cy dx dy) := by unfold crs; grind
      rw [this, ← e1, ← e2]
      grind
    have ht : crs cx cy dx dy px py = 0 := by
      refine zero_of_mul (b := denX ax ay bx bz cx cy dx dy) ?_ hD
      have : crs cx cy dx dy px py * denX ax ay bx bz cx cy dx dy = (dx - cx) * (py * denX ax ay bx bz cx cy dx dy - cy * denX ax ay bx bz cx cy dx dy) - (dy - cy) * (px * denX ax ay bx bz cx cy dx dy - cx * denX ax ay bx bz cx cy dx dy) := by unfold crs; grind
      rw [this, ← e1, ← e2]
      unfold denX numX
      grind
    have key : ∀ {ax ay bx bz cx cy dx dy px py : Int}, crs ax ay bx bz px py = 0 → crs cx cy dx dy px py = 0 → Prt ax ay bx bz cx cy dx dy → dotP cx cy dx dy px py ≤ 0 := by
      intro ax ay bx bz cx cy dx dy px py h1 h2 h
      unfold Prt at h
      have e1 : crs ax ay bx bz cx cy = (bx - ax) * (cy - py) - (bz - ay) * (cx - px) := by unfold crs at *; grind
      have e2 : crs ax ay bx bz dx dy = (bx - ax) * (dy - py) - (bz - ay) * (dx - px) := by unfold crs at *; grind
      have hx : (cx - px) * (dy - py) = (cy - py) * (dx - px) := by unfold crs at h2; grind
      rw [e1, e2] at h
      unfold dotP
      clear e1 e2 h1 h2
      generalize bx - ax = ex at *
      generalize bz - ay = ey at *
      generalize cx - px = ux at *
      generalize cy - py = uy at *
      generalize dx - px = vx at *
      generalize dy - py = vy at *
      have hid := opp_sides (dx := ex) (dy := ey) hx
      have hu : ¬ (ux = 0 ∧ uy = 0) := by
        rintro ⟨rfl, rfl⟩
        simp at h
      have hcu : ex * uy - ey * ux ≠ 0 := by
        intro e
        rw [e] at h
        simp at h
      have hp := sum_pos hu
      have hq := sq_pos hcu
      have hn : (ux * ux + uy * uy) * ((ex * uy - ey * ux) * (ex * vy - ey * vx)) < 0 := Int.mul_neg_of_pos_of_neg hp h
      rw [hid, Int.mul_comm] at hn
      exact Int.le_of_lt (neg_of_mul hq hn)
    exact ⟨⟨hs, key ht hs g⟩, ⟨ht, key hs ht h⟩⟩

/-- the greatest common divisor of three -/
def gcd3 (x y d : Int) : Nat := Int.gcd (Int.gcd x y) d
theorem gcd3_dvd (x y d : Int) : (gcd3 x y d : Int) ∣ x ∧ (gcd3 x y d : Int) ∣ y ∧ (gcd3 x y d : Int) ∣ d := by
  have h1 : (gcd3 x y d : Int) ∣ (Int.gcd x y : Int) := Int.gcd_dvd_left ..
  exact ⟨Int.dvd_trans h1 (Int.gcd_dvd_left ..), Int.dvd_trans h1 (Int.gcd_dvd_right ..), Int.gcd_dvd_right ..⟩
theorem dvd_gcd3 {k x y d : Int} (hx : k ∣ x) (hy : k ∣ y) (hd : k ∣ d) : k ∣ (gcd3 x y d : Int) := Int.dvd_coe_gcd (Int.dvd_coe_gcd hx hy) hd
theorem gcd3_pos {x y d : Int} (h : d ≠ 0) : 0 < gcd3 x y d := Int.gcd_pos_of_ne_zero_right _ h
theorem gcd3_eq {x y d x' y' d' : Int} (h1 : (gcd3 x y d : Int) ∣ x' ∧ (gcd3 x y d : Int) ∣ y' ∧ (gcd3 x y d : Int) ∣ d') (h2 : (gcd3 x' y' d' : Int) ∣ x ∧ (gcd3 x' y' d' : Int) ∣ y ∧ (gcd3 x' y' d' : Int) ∣ d) : gcd3 x y d = gcd3 x' y' d' :=
  Nat.dvd_antisymm (Int.natCast_dvd_natCast.1 (dvd_gcd3 h1.1 h1.2.1 h1.2.2)) (Int.natCast_dvd_natCast.1 (dvd_gcd3 h2.1 h2.2.1 h2.2.2))
theorem gcd3_move (x y d v w : Int) : gcd3 (x + v * d) (y + w * d) d = gcd3 x y d := by
  obtain ⟨a1, a2, a3⟩ := gcd3_dvd x y d
  obtain ⟨b1, b2, b3⟩ := gcd3_dvd (x + v * d) (y + w * d) d
  refine gcd3_eq ⟨?_, ?_, b3⟩ ⟨Int.dvd_add a1 (Int.dvd_mul_of_dvd_right a3), Int.dvd_add a2 (Int.dvd_mul_of_dvd_right a3), a3⟩
  · exact (Int.dvd_add_left (Int.dvd_mul_of_dvd_right b3)).1 b1
  · exact (Int.dvd_add_left (Int.dvd_mul_of_dvd_right b3)).1 b2
/-- a point in lowest terms -/
def lowV (x y d : Int) : Int × Int × Int := (x.tdiv (gcd3 x y d), y.tdiv (gcd3 x y d), d.tdiv (gcd3 x y d))
theorem low_way {x y d : Int} (h : d ≠ 0) : ∃ g : Int, 0 < g ∧ g = gcd3 x y d ∧ x = g * (lowV x y d).1 ∧ y = g * (lowV x y d).2.1 ∧ d = g * (lowV x y d).2.2 := by
  obtain ⟨h1, h2, h3⟩ := gcd3_dvd x y d
  refine ⟨gcd3 x y d, by have := gcd3_pos (x := x) (y := y) h; omega, rfl, ?_, ?_, ?_⟩
  · exact (Int.mul_tdiv_cancel' h1).symm
  · exact (Int.mul_tdiv_cancel' h2).symm
  · exact (Int.mul_tdiv_cancel' h3).symm
theorem low_move {x y d : Int} (v w : Int) (h : d ≠ 0) : lowV (x + v * d) (y + w * d) d = ((lowV x y d).1 + v * (lowV x y d).2.2, (lowV x y d).2.1 + w * (lowV x y d).2.2, (lowV x y d).2.2) := by
  obtain ⟨g, hg, eg, e1, e2, e3⟩ := low_way (x := x) (y := y) h
  obtain ⟨k, hk, ek, f1, f2, f3⟩ := low_way (x := x + v * d) (y := y + w * d) h
  rw [gcd3_move, ← eg] at ek
  subst ek
  have n : k ≠ 0 := by omega
  have g3 := Int.eq_of_mul_eq_mul_left n (f3.symm.trans e3)
  refine Prod.ext ?_ (Prod.ext ?_ g3)
  · refine Int.eq_of_mul_eq_mul_left n ?_
    rw [← f1, Int.mul_add, ← e1, ← Int.mul_assoc, Int.mul_comm k v, Int.mul_assoc, ← e3]
  · refine Int.eq_of_mul_eq_mul_left n ?_
    rw [← f2, Int.mul_add, ← e2, ← Int.mul_assoc, Int.mul_comm k w, Int.mul_assoc, ← e3]
theorem low_valid {x y d : Int} (h : 0 < d) : gcd3 (lowV x y d).1 (lowV x y d).2.1 (lowV x y d).2.2 = 1 := by
  obtain ⟨g, hg, eg, e1, e2, e3⟩ := low_way (x := x) (y := y) (show d ≠ 0 by omega)
  obtain ⟨a1, a2, a3⟩ := gcd3_dvd (lowV x y d).1 (lowV x y d).2.1 (lowV x y d).2.2
  have : g * (gcd3 (lowV x y d).1 (lowV x y d).2.1 (lowV x y d).2.2 : Int) ∣ g := by
    conv => rhs; rw [eg]
    refine dvd_gcd3 ?_ ?_ ?_
    · conv => rhs; rw [e1]
      exact Int.mul_dvd_mul_left _ a1
    · conv => rhs; rw [e2]
      exact Int.mul_dvd_mul_left _ a2
    · conv => rhs; rw [e3]
      exact Int.mul_dvd_mul_left _ a3
  obtain ⟨c, hc⟩ := this
  have h1 : g * ((gcd3 (lowV x y d).1 (lowV x y d).2.1 (lowV x y d).2.2 : Int) * c) = g * 1 := by rw [← Int.mul_assoc, ← hc, Int.mul_one]
  have h2 := Int.eq_of_mul_eq_mul_left (show g ≠ 0 by omega) h1
  have := Int.eq_one_of_mul_eq_one_right (by omega) h2
  omega
theorem low_den {x y d : Int} (h : 0 < d) : 0 < (lowV x y d).2.2 ∧ (lowV x y d).2.2 ≤ d := by
  obtain ⟨g, hg, eg, e1, e2, e3⟩ := low_way (x := x) (y := y) (show d ≠ 0 by omega)
  generalize lowV x y d = l at *
  have hp : 0 < l.2.2 := by
    rcases Int.lt_or_le 0 l.2.2 with k | k
    · exact k
    · have := Int.mul_nonpos_of_nonneg_of_nonpos (show 0 ≤ g by omega) k
      omega
  refine ⟨hp, ?_⟩
  have := Int.mul_le_mul_of_nonneg_right (show 1 ≤ g by omega) (Int.le_of_lt hp)
  omega
theorem low_within {x y d M : Int} (h : 0 < d) (hx : -(M * d) ≤ x ∧ x ≤ M * d) (hy : -(M * d) ≤ y ∧ y ≤ M * d) : (-(M * (lowV x y d).2.2) ≤ (lowV x y d).1 ∧ (lowV x y d).1 ≤ M * (lowV x y d).2.2) ∧ (-(M * (lowV x y d).2.2) ≤ (lowV x y d).2.1 ∧ (lowV x y d).2.1 ≤ M * (lowV x y d).2.2) := by
  obtain ⟨g, hg, eg, e1, e2, e3⟩ := low_way (x := x) (y := y) (show d ≠ 0 by omega)
  generalize lowV x y d = l at *
  have em : M * d = g * (M * l.2.2) := by rw [e3]; grind
  rw [em, e1, ← Int.mul_neg] at hx
  rw [em, e2, ← Int.mul_neg] at hy
  exact ⟨⟨Int.le_of_mul_le_mul_left hx.1 hg, Int.le_of_mul_le_mul_left hx.2 hg⟩, ⟨Int.le_of_mul_le_mul_left hy.1 hg, Int.le_of_mul_le_mul_left hy.2 hg⟩⟩
/-- where it is an integer point -/
theorem low_int {x y d px py : Int} (h : 0 < d) : lowV x y d = (px, py, 1) ↔ x = px * d ∧ y = py * d := by
  obtain ⟨g, hg, eg, e1, e2, e3⟩ := low_way (x := x) (y := y) (show d ≠ 0 by omega)
  have hv := low_valid (x := x) (y := y) h
  have hd := (low_den (x := x) (y := y) h).1
  generalize lowV x y d = l at *
  obtain ⟨l1, l2, l3⟩ := l
  simp only at *
  constructor
  · intro e
    injection e with e4 e5
    injection e5 with e5 e6
    subst e4 e5 e6
    rw [e1, e2, e3]
    constructor <;> grind
  · rintro ⟨h1, h2⟩
    have n : g ≠ 0 := by omega
    have k1 : l1 = px * l3 := Int.eq_of_mul_eq_mul_left n (by rw [← e1, h1]; conv => lhs; rw [e3]
                                                              grind)
    have k2 : l2 = py * l3 := Int.eq_of_mul_eq_mul_left n (by rw [← e2, h2]; conv => lhs; rw [e3]
                                                              grind)
    have : l3 ∣ (gcd3 l1 l2 l3 : Int) := dvd_gcd3 ⟨px, by rw [k1, Int.mul_comm]⟩ ⟨py, by rw [k2, Int.mul_comm]⟩ (Int.dvd_refl _)
    rw [hv] at this
    have h3 : l3 = 1 := Int.eq_one_of_dvd_one (by omega) this
    subst h3
    rw [k1, k2]
    simp
end Go.Proofs.Ytlogihcmmoldkaa.G

namespace Go.Proofs.Ytlogihcmmoldkaa.G
open Go.Proofs.Ytlogihcmmoldkaa.V
/-- the order of two quotients with positive denominators -/
def qcmp (a m b n : Int) : Int := sgn (a * n - b * m)
theorem sgn_pos {n : Int} (h : 0 < n) : sgn n = 1 := by
  rcases sgn_cases n with ⟨_, e⟩ | ⟨_, e⟩ | ⟨_, e⟩ <;> omega
theorem sgn_negv {n : Int} (h : n < 0) : sgn n = -1 := by
  rcases sgn_cases n with ⟨_, e⟩ | ⟨_, e⟩ | ⟨_, e⟩ <;> omega
theorem sgn_zero_iff (n : Int) : sgn n = 0 ↔ n = 0 := by
  rcases sgn_cases n with ⟨_, e⟩ | ⟨_, e⟩ | ⟨_, e⟩ <;> omega
theorem sgn_nonpos_iff (n : Int) : sgn n ≤ 0 ↔ n ≤ 0 := by
  rcases sgn_cases n with ⟨_, e⟩ | ⟨_, e⟩ | ⟨_, e⟩ <;> omega
theorem sgn_negate (n : Int) : sgn (-n) = -sgn n := by
  rcases sgn_cases n with ⟨_, e⟩ | ⟨_, e⟩ | ⟨_, e⟩ <;> rcases sgn_cases (-n) with ⟨_, f⟩ | ⟨_, f⟩ | ⟨_, f⟩ <;> omega
/-- whole parts apart -/
theorem apart_lt {q r s t m n : Int} (hm : 0 < m) (hn : 0 < n) (h1 : -m < r) (h4 : t < n)
    (hr : 0 ≤ r ∨ q ≤ 0) (ht : t ≤ 0 ∨ 0 ≤ s) (hr' : r ≤ 0 ∨ 0 ≤ q) (ht' : 0 ≤ t ∨ s ≤ 0) (h : s < q) : 0 < (m * q + r) * n - (n * s + t) * m := by
  have e : (m * q + r) * n - (n * s + t) * m = m * n * (q - s) + (r * n - t * m) := by grind
  rw [e]
  have hmn := Int.mul_pos hm hn
  have k : m * n ≤ m * n * (q - s) := by
    have := Int.mul_le_mul_of_nonneg_left (show 1 ≤ q - s by omega) (Int.le_of_lt hmn)
    omega
  have goal : -(m * n) < r * n - t * m := by
    by_cases hq : 0 < q
    · have r0 : 0 ≤ r := by omega
      have a1 := Int.mul_nonneg r0 (Int.le_of_lt hn)
      have a2 := Int.mul_lt_mul_of_pos_right h4 hm
      rw [Int.mul_comm n m] at a2
      omega
    · have t0 : t ≤ 0 := by omega
      have a1 := Int.mul_nonpos_of_nonpos_of_nonneg t0 (Int.le_of_lt hm)
      have a2 := Int.mul_lt_mul_of_pos_right h1 hn
      rw [Int.neg_mul] at a2
      omega
  omega
theorem tm_way (a m : Int) (hm : 0 < m) : a = m * a.tdiv m + a.tmod m ∧ -m < a.tmod m ∧ a.tmod m < m ∧ (0 ≤ a.tmod m ∨ a.tdiv m ≤ 0) ∧ (a.tmod m ≤ 0 ∨ 0 ≤ a.tdiv m) := by
  have h0 := Int.mul_tdiv_add_tmod a m
  rcases Int.le_total 0 a with h | h
  · have h1 := Int.tmod_nonneg m h
    have h2 := Int.tmod_lt_of_pos a hm
    have h3 := Int.tdiv_nonneg h (Int.le_of_lt hm)
    omega
  · have h1 := Int.tmod_nonneg m (show 0 ≤ -a by omega)
    have h2 := Int.tmod_lt_of_pos (-a) hm
    have h3 := Int.tdiv_nonneg (show 0 ≤ -a by omega) (Int.le_of_lt hm)
    rw [Int.neg_tmod] at h1 h2
    rw [Int.neg_tdiv] at h3
    omega
theorem qcmp_trunc {a m b n : Int} (hm : 0 < m) (hn : 0 < n) : (if sgn (a.tdiv m - b.tdiv n) ≠ 0 then sgn (a.tdiv m - b.tdiv n) else sgn (a.tmod m * n - b.tmod n * m)) = qcmp a m b n := by
  obtain ⟨h0, h1, h2, h3, h4⟩ := tm_way a m hm
  obtain ⟨g0, g1, g2, g3, g4⟩ := tm_way b n hn
  unfold qcmp
  conv => rhs; rw [h0, g0]
  generalize a.tdiv m = q at *
  generalize a.tmod m = r at *
  generalize b.tdiv n = s at *
  generalize b.tmod n = t at *
  rcases sgn_cases (q - s) with ⟨k, e⟩ | ⟨k, e⟩ | ⟨k, e⟩
  · rw [e, if_pos (by omega)]
    have := apart_lt hn hm g1 h2 g3 (by omega) g4 (by omega) (show q < s by omega)
    rw [sgn_negv (by omega)]
  · rw [e, if_neg (by omega)]
    obtain rfl : q = s := by omega
    congr 1
    grind
  · rw [e, if_pos (by omega)]
    have := apart_lt hm hn h1 g2 h3 (by omega) h4 (by omega) (show s < q by omega)
    rw [sgn_pos (by omega)]
/-- the whole part and the rest that is not negative -/
def flQ (a b : Int) : Int × Int := if a.tmod b < 0 then (a.tdiv b - 1, a.tmod b + b) else (a.tdiv b, a.tmod b)
theorem fl_way (a m : Int) (hm : 0 < m) : a = m * (flQ a m).1 + (flQ a m).2 ∧ 0 ≤ (flQ a m).2 ∧ (flQ a m).2 < m := by
  obtain ⟨h0, h1, h2, h3, h4⟩ := tm_way a m hm
  unfold flQ
  split
  · simp only
    rw [Int.mul_sub]
    omega
  · simp only
    omega
theorem qcmp_floor {a m b n : Int} (hm : 0 < m) (hn : 0 < n) : (if (flQ a m).1 ≠ (flQ b n).1 then sgn ((flQ a m).1 - (flQ b n).1) else sgn ((flQ a m).2 * n - (flQ b n).2 * m)) = qcmp a m b n := by
  obtain ⟨h0, h1, h2⟩ := fl_way a m hm
  obtain ⟨g0, g1, g2⟩ := fl_way b n hn
  unfold qcmp
  conv => rhs; rw [h0, g0]
  generalize flQ a m = F at *
  generalize flQ b n = G at *
  obtain ⟨q, r⟩ := F
  obtain ⟨s, t⟩ := G
  simp only at *
  have key : ∀ {q r s t m n : Int}, 0 < m → 0 < n → 0 ≤ r → t < n → s < q → 0 < (m * q + r) * n - (n * s + t) * m := by
    intro q r s t m n hm hn hr ht h
    have e : (m * q + r) * n - (n * s + t) * m = m * n * (q - s) + (r * n - t * m) := by grind
    rw [e]
    have hmn := Int.mul_pos hm hn
    have k := Int.mul_le_mul_of_nonneg_left (show 1 ≤ q - s by omega) (Int.le_of_lt hmn)
    have a1 := Int.mul_nonneg hr (Int.le_of_lt hn)
    have a2 := Int.mul_lt_mul_of_pos_right ht hm
    rw [Int.mul_comm n m] at a2
    omega
  by_cases h : q = s
  · subst h
    rw [if_neg (by simp)]
    congr 1
    grind
  · rw [if_pos h]
    rcases Int.lt_or_gt_of_ne h with k | k
    · have := key hn hm g1 h2 k
      rw [sgn_negv (by omega), sgn_negv (by omega)]
    · have := key hm hn h1 g2 k
      rw [sgn_pos (by omega), sgn_pos (by omega)]
theorem qcmp_opp (a m b n : Int) : qcmp b n a m = -qcmp a m b n := by
  unfold qcmp
  rw [← sgn_negate]
  congr 1
  omega
theorem qcmp_trans {a m b n c k : Int} (hm : 0 < m) (hn : 0 < n) (hk : 0 < k) (h1 : qcmp a m b n ≤ 0) (h2 : qcmp b n c k ≤ 0) : qcmp a m c k ≤ 0 ∧ (qcmp a m c k = 0 → qcmp a m b n = 0 ∧ qcmp b n c k = 0) := by
  unfold qcmp at *
  rw [sgn_nonpos_iff] at h1 h2
  rw [sgn_nonpos_iff, sgn_zero_iff, sgn_zero_iff, sgn_zero_iff]
  have e1 := Int.mul_le_mul_of_nonneg_right (show a * n ≤ b * m by omega) (Int.le_of_lt hk)
  have e2 := Int.mul_le_mul_of_nonneg_right (show b * k ≤ c * n by omega) (Int.le_of_lt hm)
  have s1 : a * n * k = n * (a * k) := by grind
  have s2 : b * m * k = b * k * m := by grind
  have s3 : c * n * m = n * (c * m) := by grind
  rw [s1, s2] at e1
  rw [s3] at e2
  have e3 := Int.le_trans e1 e2
  refine ⟨by have := Int.le_of_mul_le_mul_left e3 hn; omega, fun h => ?_⟩
  have h : a * k = c * m := by omega
  rw [h] at e1 e3
  have e4 : b * k * m = n * (c * m) := by omega
  constructor
  · have : b * k * m = k * (b * m) := by grind
    have t : k * (b * m) = k * (a * n) := by rw [← this, e4, ← h]; grind
    have := Int.eq_of_mul_eq_mul_left (by omega) t
    omega
  · have t : m * (b * k) = m * (c * n) := by rw [Int.mul_comm m (b * k), e4]; grind
    have := Int.eq_of_mul_eq_mul_left (by omega) t
    omega
/-- the order of two points: by the second coordinate, then by the first one -/
def pcmp (x y d x' y' d' : Int) : Int := if qcmp y d y' d' ≠ 0 then qcmp y d y' d' else qcmp x d x' d'
theorem pcmp_opp (x y d x' y' d' : Int) : pcmp x' y' d' x y d = -pcmp x y d x' y' d' := by
  unfold pcmp
  rw [qcmp_opp y d y' d', qcmp_opp x d x' d']
  by_cases h : qcmp y d y' d' = 0
  · rw [h]; simp
  · rw [if_pos h, if_pos (by omega)]
theorem pcmp_trans {x y d x' y' d' x'' y'' d'' : Int} (hd : 0 < d) (hd' : 0 < d') (hd'' : 0 < d'') (h1 : pcmp x y d x' y' d' ≤ 0) (h2 : pcmp x' y' d' x'' y'' d'' ≤ 0) : pcmp x y d x'' y'' d'' ≤ 0 := by
  unfold pcmp at *
  have ty := @qcmp_trans y d y' d' y'' d'' hd hd' hd''
  have tx := @qcmp_trans x d x' d' x'' d'' hd hd' hd''
  by_cases a : qcmp y d y' d' = 0
  · rw [if_neg (by omega)] at h1
    by_cases b : qcmp y' d' y'' d'' = 0
    · rw [if_neg (by omega)] at h2
      have t := ty (by omega) (by omega)
      by_cases c : qcmp y d y'' d'' = 0
      · rw [if_neg (by omega)]
        exact (tx h1 h2).1
      · rw [if_pos c]
        exact t.1
    · rw [if_pos b] at h2
      have t := ty (by omega) (by omega)
      by_cases c : qcmp y d y'' d'' = 0
      · exact absurd (t.2 c).2 b
      · rw [if_pos c]
        exact t.1
  · rw [if_pos a] at h1
    by_cases b : qcmp y' d' y'' d'' = 0
    · have t := ty (by omega) (by omega)
      by_cases c : qcmp y d y'' d'' = 0
      · exact absurd (t.2 c).1 a
      · rw [if_pos c]
        exact t.1
    · rw [if_pos b] at h2
      have t := ty (by omega) (by omega)
      by_cases c : qcmp y d y'' d'' = 0
      · exact absurd (t.2 c).1 a
      · rw [if_pos c]
        exact t.1
theorem low_same {x y d x' y' d' : Int} (hd : 0 < d) (hd' : 0 < d') (h : gcd3 x y d = 1) (h' : gcd3 x' y' d' = 1) (hx : x * d' = x' * d) (hy : y * d' = y' * d) : x = x' ∧ y = y' ∧ d = d' := by
  have key : ∀ {x y d x' y' d' : Int}, gcd3 x y d = 1 → x * d' = x' * d → y * d' = y' * d → d ∣ d' := by
    intro x y d x' y' d' h hx hy
    have h1 : d ∣ (Int.gcd (x * d') (y * d') : Int) := Int.dvd_coe_gcd ⟨x', by rw [hx, Int.mul_comm]⟩ ⟨y', by rw [hy, Int.mul_comm]⟩
    rw [Int.gcd_mul_right] at h1
    have h2 : d ∣ (Int.gcd ((Int.gcd x y : Nat) * (d'.natAbs : Int)) (d * (d'.natAbs : Int)) : Int) := by
      refine Int.dvd_coe_gcd ?_ (Int.dvd_mul_right ..)
      rw [← Int.natCast_mul]
      exact h1
    rw [Int.gcd_mul_right] at h2
    have h3 : Int.gcd (Int.gcd x y : Nat) d = 1 := h
    rw [h3] at h2
    rw [Nat.one_mul, Int.natAbs_natCast] at h2
    exact Int.dvd_natAbs.1 h2
  have d1 := key h hx hy
  have d2 := key h' hx.symm hy.symm
  have e := Int.dvd_antisymm (by omega) (by omega) d1 d2
  subst e
  exact ⟨Int.eq_of_mul_eq_mul_right (by omega) hx, Int.eq_of_mul_eq_mul_right (by omega) hy, rfl⟩
theorem pcmp_zero {x y d x' y' d' : Int} (hd : 0 < d) (hd' : 0 < d') (h : gcd3 x y d = 1) (h' : gcd3 x' y' d' = 1) : pcmp x y d x' y' d' = 0 ↔ x = x' ∧ y = y' ∧ d = d' := by
  constructor
  · intro e
    unfold pcmp at e
    by_cases a : qcmp y d y' d' = 0
    · rw [if_neg (by omega)] at e
      unfold qcmp at a e
      rw [sgn_zero_iff] at a e
      exact low_same hd hd' h h' (by omega) (by omega)
    · rw [if_pos a] at e
      exact absurd e a
  · rintro ⟨rfl, rfl, rfl⟩
    unfold pcmp qcmp
    rw [Int.sub_self, Int.sub_self]
    rfl
end Go.Proofs.Ytlogihcmmoldkaa.G

namespace Go.Proofs.Ytlogihcmmoldkaa.W
open Go.RowKit Go.Proofs.Ytlogihcmmoldkaa.V Go.Proofs.Ytlogihcmmoldkaa.G

def Mid (a : Int) : Prop := -4611686018427387904 ≤ a ∧ a ≤ 4611686018427387904
theorem tmod_small (a b : Int) (h : b ≠ 0) : (a.tmod b).natAbs < b.natAbs := by
  rw [Int.natAbs_tmod]
  exact Nat.mod_lt _ (by omega)
theorem gcd_tmod (a b : Int) : Int.gcd b (a.tmod b) = Int.gcd a b := by
  show Nat.gcd b.natAbs (a.tmod b).natAbs = Nat.gcd a.natAbs b.natAbs
  rw [Int.natAbs_tmod, Nat.gcd_comm, ← Nat.gcd_rec, Nat.gcd_comm]
theorem wrap_mid {a : Int} (h : -9223372036854775808 ≤ a ∧ a ≤ 9223372036854775807) : IntKind.i64.wrap a = a := by
  rw [IntKind.wrap_i64]
  omega
end Go.Proofs.Ytlogihcmmoldkaa.W
