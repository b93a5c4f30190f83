/-
  seg, plain: the crossing of two segments, points in lowest terms; integers only, no program. Conditions stand at each lemma.
-/
import Derived.Test.YtahamffngmdjfaaGPa
namespace Go.Proofs.Ytahamffngmdjfaa.G

/-- the denominator of the crossing of two lines -/
def denX (ax ay bx bz cx cy dx dy : Int) : Int := (bx - ax) * (dy - cy) - (bz - ay) * (dx - cx)
def numX (ax ay cx cy dx dy : Int) : Int := (cx - ax) * (dy - cy) - (cy - ay) * (dx - cx)
theorem crs_den (ax ay bx bz cx cy dx dy : Int) : crs ax ay bx bz dx dy - crs ax ay bx bz cx cy = denX ax ay bx bz cx cy dx dy := by
  unfold crs denX
  grind
theorem prt_den {ax ay bx bz cx cy dx dy : Int} (h : Prt ax ay bx bz cx cy dx dy) : denX ax ay bx bz cx cy dx dy ≠ 0 := by
  intro e
  have := crs_den ax ay bx bz cx cy dx dy
  unfold Prt at h
  rw [e] at this
  rw [show crs ax ay bx bz dx dy = crs ax ay bx bz cx cy by omega] at h
  have := sq_nonneg (crs ax ay bx bz cx cy)
  omega
/-- the numerator lies between 0 and the denominator -/
theorem num_between {ax ay bx bz cx cy dx dy : Int} (g : Prt cx cy dx dy ax ay bx bz) : 0 < numX ax ay cx cy dx dy ∧ numX ax ay cx cy dx dy < denX ax ay bx bz cx cy dx dy ∨ denX ax ay bx bz cx cy dx dy < numX ax ay cx cy dx dy ∧ numX ax ay cx cy dx dy < 0 := by
  unfold Prt at g
  have e1 : crs cx cy dx dy ax ay = numX ax ay cx cy dx dy := by unfold crs numX; grind
  have e2 : crs cx cy dx dy bx bz = numX ax ay cx cy dx dy - denX ax ay bx bz cx cy dx dy := by unfold crs numX denX; grind
  rw [e1, e2] at g
  generalize numX ax ay cx cy dx dy = n at *
  generalize denX ax ay bx bz cx cy dx dy = d at *
  rcases Int.lt_or_le 0 n with h | h
  · left
    refine ⟨h, ?_⟩
    rcases Int.lt_or_le n d with k | k
    · exact k
    · have := Int.mul_nonneg (show 0 ≤ n by omega) (show 0 ≤ n - d by omega)
      omega
  · right
    by_cases h0 : n = 0
    · rw [h0] at g; simp at g
    · refine ⟨?_, by omega⟩
      rcases Int.lt_or_le d n with k | k
      · exact k
      · have := Int.mul_nonneg_of_nonpos_of_nonpos (show n ≤ 0 by omega) (show n - d ≤ 0 by omega)
        omega
/-- a convex combination stays within -/
theorem mix_le {a b n d M : Int} (ha : -M ≤ a ∧ a ≤ M) (hb : -M ≤ b ∧ b ≤ M) (h0 : 0 ≤ n) (h1 : n ≤ d) : -(M * d) ≤ a * d + (b - a) * n ∧ a * d + (b - a) * n ≤ M * d := by
  have e : a * d + (b - a) * n = a * (d - n) + b * n := by grind
  have eM : M * d = M * (d - n) + M * n := by grind
  have eM' : -(M * d) = (-M) * (d - n) + (-M) * n := by grind
  have k1 := Int.mul_le_mul_of_nonneg_right ha.1 (show 0 ≤ d - n by omega)
  have k2 := Int.mul_le_mul_of_nonneg_right ha.2 (show 0 ≤ d - n by omega)
  have k3 := Int.mul_le_mul_of_nonneg_right hb.1 h0
  have k4 := Int.mul_le_mul_of_nonneg_right hb.2 h0
  rw [eM', eM, e]
  omega
/-- which integer points lie on both segments that cross -/
theorem cross_on {ax ay bx bz cx cy dx dy px py : Int} (h : Prt ax ay bx bz cx cy dx dy) (g : Prt cx cy dx dy ax ay bx bz) :
    (On ax ay bx bz px py ∧ On cx cy dx dy px py) ↔ ax * denX ax ay bx bz cx cy dx dy + (bx - ax) * numX ax ay cx cy dx dy = px * denX ax ay bx bz cx cy dx dy ∧ ay * denX ax ay bx bz cx cy dx dy + (bz - ay) * numX ax ay cx cy dx dy = py * denX ax ay bx bz cx cy dx dy := by
  constructor
  · rintro ⟨⟨h1, _⟩, ⟨g1, _⟩⟩
    unfold crs at h1 g1
    constructor
    · have : ax * denX ax ay bx bz cx cy dx dy + (bx - ax) * numX ax ay cx cy dx dy - px * denX ax ay bx bz cx cy dx dy = (dx - cx) * ((bx - ax) * (py - ay) - (bz - ay) * (px - ax)) - (bx - ax) * ((dx - cx) * (py - cy) - (dy - cy) * (px - cx)) := by
        unfold denX numX
        grind
      rw [h1, g1] at this
      simp at this
      omega
    · have : ay * denX ax ay bx bz cx cy dx dy + (bz - ay) * numX ax ay cx cy dx dy - py * denX ax ay bx bz cx cy dx dy = (dy - cy) * ((bx - ax) * (py - ay) - (bz - ay) * (px - ax)) - (bz - ay) * ((dx - cx) * (py - cy) - (dy - cy) * (px - cx)) := by
        unfold denX numX
        grind
      rw [h1, g1] at this
      simp at this
      omega
  · rintro ⟨e1, e2⟩
    have hD := prt_den h
    have hs : crs ax ay bx bz px py = 0 := by
      refine zero_of_mul (b := denX ax ay bx bz cx cy dx dy) ?_ hD
      have : crs ax ay bx bz px py * denX ax ay bx bz cx cy dx dy = (bx - ax) * (py * denX ax ay bx bz cx cy dx dy - ay * denX ax ay bx bz cx cy dx dy) - (bz - ay) * (px * denX ax ay bx bz cx cy dx dy - ax * denX ax ay bx bz cx cy dx dy) := by unfold crs; grind
      rw [this, ← e1, ← e2]
      grind
    have ht : crs cx cy dx dy px py = 0 := by
      refine zero_of_mul (b := denX ax ay bx bz cx cy dx dy) ?_ hD
      have : crs cx cy dx dy px py * denX ax ay bx bz cx cy dx dy = (dx - cx) * (py * denX ax ay bx bz cx cy dx dy - cy * denX ax ay bx bz cx cy dx dy) - (dy - cy) * (px * denX ax ay bx bz cx cy dx dy - cx * denX ax ay bx bz cx cy dx dy) := by unfold crs; grind
      rw [this, ← e1, ← e2]
      unfold denX numX
      grind
    have key : ∀ {ax ay bx bz cx cy dx dy px py : Int}, crs ax ay bx bz px py = 0 → crs cx cy dx dy px py = 0 → Prt ax ay bx bz cx cy dx dy → dotP cx cy dx dy px py ≤ 0 := by
      intro ax ay bx bz cx cy dx dy px py h1 h2 h
      unfold Prt at h
      have e1 : crs ax ay bx bz cx cy = (bx - ax) * (cy - py) - (bz - ay) * (cx - px) := by unfold crs at *; grind
      have e2 : crs ax ay bx bz dx dy = (bx - ax) * (dy - py) - (bz - ay) * (dx - px) := by unfold crs at *; grind
      have hx : (cx - px) * (dy - py) = (cy - py) * (dx - px) := by unfold crs at h2; grind
      rw [e1, e2] at h
      unfold dotP
      clear e1 e2 h1 h2
      generalize bx - ax = ex at *
      generalize bz - ay = ey at *
      generalize cx - px = ux at *
      generalize cy - py = uy at *
      generalize dx - px = vx at *
      generalize dy - py = vy at *
      have hid := opp_sides (dx := ex) (dy := ey) hx
      have hu : ¬ (ux = 0 ∧ uy = 0) := by
        rintro ⟨rfl, rfl⟩
        simp at h
      have hcu : ex * uy - ey * ux ≠ 0 := by
        intro e
        rw [e] at h
        simp at h
      have hp := sum_pos hu
      have hq := sq_pos hcu
      have hn : (ux * ux + uy * uy) * ((ex * uy - ey * ux) * (ex * vy - ey * vx)) < 0 := Int.mul_neg_of_pos_of_neg hp h
      rw [hid, Int.mul_comm] at hn
      exact Int.le_of_lt (neg_of_mul hq hn)
    exact ⟨⟨hs, key ht hs g⟩, ⟨ht, key hs ht h⟩⟩

/-- the greatest common divisor of three -/
def gcd3 (x y d : Int) : Nat := Int.gcd (Int.gcd x y) d
theorem gcd3_dvd (x y d : Int) : (gcd3 x y d : Int) ∣ x ∧ (gcd3 x y d : Int) ∣ y ∧ (gcd3 x y d : Int) ∣ d := by
  have h1 : (gcd3 x y d : Int) ∣ (Int.gcd x y : Int) := Int.gcd_dvd_left ..
  exact ⟨Int.dvd_trans h1 (Int.gcd_dvd_left ..), Int.dvd_trans h1 (Int.gcd_dvd_right ..), Int.gcd_dvd_right ..⟩
theorem dvd_gcd3 {k x y d : Int} (hx : k ∣ x) (hy : k ∣ y) (hd : k ∣ d) : k ∣ (gcd3 x y d : Int) := Int.dvd_coe_gcd (Int.dvd_coe_gcd hx hy) hd
theorem gcd3_pos {x y d : Int} (h : d ≠ 0) : 0 < gcd3 x y d := Int.gcd_pos_of_ne_zero_right _ h
theorem gcd3_eq {x y d x' y' d' : Int} (h1 : (gcd3 x y d : Int) ∣ x' ∧ (gcd3 x y d : Int) ∣ y' ∧ (gcd3 x y d : Int) ∣ d') (h2 : (gcd3 x' y' d' : Int) ∣ x ∧ (gcd3 x' y' d' : Int) ∣ y ∧ (gcd3 x' y' d' : Int) ∣ d) : gcd3 x y d = gcd3 x' y' d' :=
  Nat.dvd_antisymm (Int.natCast_dvd_natCast.1 (dvd_gcd3 h1.1 h1.2.1 h1.2.2)) (Int.natCast_dvd_natCast.1 (dvd_gcd3 h2.1 h2.2.1 h2.2.2))
theorem gcd3_move (x y d v w : Int) : gcd3 (x + v * d) (y + w * d) d = gcd3 x y d := by
  obtain ⟨a1, a2, a3⟩ := gcd3_dvd x y d
  obtain ⟨b1, b2, b3⟩ := gcd3_dvd (x + v * d) (y + w * d) d
  refine gcd3_eq ⟨?_, ?_, b3⟩ ⟨Int.dvd_add a1 (Int.dvd_mul_of_dvd_right a3), Int.dvd_add a2 (Int.dvd_mul_of_dvd_right a3), a3⟩
  · exact (Int.dvd_add_left (Int.dvd_mul_of_dvd_right b3)).1 b1
  · exact (Int.dvd_add_left (Int.dvd_mul_of_dvd_right b3)).1 b2
/-- a point in lowest terms -/
def lowV (x y d : Int) : Int × Int × Int := (x.tdiv (gcd3 x y d), y.tdiv (gcd3 x y d), d.tdiv (gcd3 x y d))
theorem low_way {x y d : Int} (h : d ≠ 0) : ∃ g : Int, 0 < g ∧ g = gcd3 x y d ∧ x = g * (lowV x y d).1 ∧ y = g * (lowV x y d).2.1 ∧ d = g * (lowV x y d).2.2 := by
  obtain ⟨h1, h2, h3⟩ := gcd3_dvd x y d
  refine ⟨gcd3 x y d, by have := gcd3_pos (x := x) (y := y) h; omega, rfl, ?_, ?_, ?_⟩
  · exact (Int.mul_tdiv_cancel' h1).symm
  · exact (Int.mul_tdiv_cancel' h2).symm
  · exact (Int.mul_tdiv_cancel' h3).symm
theorem low_move {x y d : Int} (v w : Int) (h : d ≠ 0) : lowV (x + v * d) (y + w * d) d = ((lowV x y d).1 + v * (lowV x y d).2.2, (lowV x y d).2.1 + w * (lowV x y d).2.2, (lowV x y d).2.2) := by
  obtain ⟨g, hg, eg, e1, e2, e3⟩ := low_way (x := x) (y := y) h
  obtain ⟨k, hk, ek, f1, f2, f3⟩ := low_way (x := x + v * d) (y := y + w * d) h
  rw [gcd3_move, ← eg] at ek
  subst ek
  have n : k ≠ 0 := by omega
  have g3 := Int.eq_of_mul_eq_mul_left n (f3.symm.trans e3)
  refine Prod.ext ?_ (Prod.ext ?_ g3)
  · refine Int.eq_of_mul_eq_mul_left n ?_
    rw [← f1, Int.mul_add, ← e1, ← Int.mul_assoc, Int.mul_comm k v, Int.mul_assoc, ← e3]
  · refine Int.eq_of_mul_eq_mul_left n ?_
    rw [← f2, Int.mul_add, ← e2, ← Int.mul_assoc, Int.mul_comm k w, Int.mul_assoc, ← e3]
theorem low_valid {x y d : Int} (h : 0 < d) : gcd3 (lowV x y d).1 (lowV x y d).2.1 (lowV x y d).2.2 = 1 := by
  obtain ⟨g, hg, eg, e1, e2, e3⟩ := low_way (x := x) (y := y) (show d ≠ 0 by omega)
  obtain ⟨a1, a2, a3⟩ := gcd3_dvd (lowV x y d).1 (lowV x y d).2.1 (lowV x y d).2.2
  have : g * (gcd3 (lowV x y d).1 (lowV x y d).2.1 (lowV x y d).2.2 : Int) ∣ g := by
    conv => rhs; rw [eg]
    refine dvd_gcd3 ?_ ?_ ?_
    · conv => rhs; rw [e1]
      exact Int.mul_dvd_mul_left _ a1
    · conv => rhs; rw [e2]
      exact Int.mul_dvd_mul_left _ a2
    · conv => rhs; rw [e3]
      exact Int.mul_dvd_mul_left _ a3
  obtain ⟨c, hc⟩ := this
  have h1 : g * ((gcd3 (lowV x y d).1 (lowV x y d).2.1 (lowV x y d).2.2 : Int) * c) = g * 1 := by rw [← Int.mul_assoc, ← hc, Int.mul_one]
  have h2 := Int.eq_of_mul_eq_mul_left (show g ≠ 0 by omega) h1
  have := Int.eq_one_of_mul_eq_one_right (by omega) h2
  omega
theorem low_den {x y d : Int} (h : 0 < d) : 0 < (lowV x y d).2.2 ∧ (lowV x y d).2.2 ≤ d := by
  obtain ⟨g, hg, eg, e1, e2, e3⟩ := low_way (x := x) (y := y) (show d ≠ 0 by omega)
  generalize lowV x y d = l at *
  have hp : 0 < l.2.2 := by
    rcases Int.lt_or_le 0 l.2.2 with k | k
    · exact k
    · have := Int.mul_nonpos_of_nonneg_of_nonpos (show 0 ≤ g by omega) k
      omega
  refine ⟨hp, ?_⟩
  have := Int.mul_le_mul_of_nonneg_right (show 1 ≤ g by omega) (Int.le_of_lt hp)
  omega
theorem low_within {x y d M : Int} (h : 0 < d) (hx : -(M * d) ≤ x ∧ x ≤ M * d) (hy : -(M * d) ≤ y ∧ y ≤ M * d) : (-(M * (lowV x y d).2.2) ≤ (lowV x y d).1 ∧ (lowV x y d).1 ≤ M * (lowV x y d).2.2) ∧ (-(M * (lowV x y d).2.2) ≤ (lowV x y d).2.1 ∧ (lowV x y d).2.1 ≤ M * (lowV x y d).2.2) := by
  obtain ⟨g, hg, eg, e1, e2, e3⟩ := low_way (x := x) (y := y) (show d ≠ 0 by omega)
  generalize lowV x y d = l at *
  have em : M * d = g * (M * l.2.2) := by rw [e3]; grind
  rw [em, e1, ← Int.mul_neg] at hx
  rw [em, e2, ← Int.mul_neg] at hy
  exact ⟨⟨Int.le_of_mul_le_mul_left hx.1 hg, Int.le_of_mul_le_mul_left hx.2 hg⟩, ⟨Int.le_of_mul_le_mul_left hy.1 hg, Int.le_of_mul_le_mul_left hy.2 hg⟩⟩
/-- where it is an integer point -/
theorem low_int {x y d px py : Int} (h : 0 < d) : lowV x y d = (px, py, 1) ↔ x = px * d ∧ y = py * d := by
  obtain ⟨g, hg, eg, e1, e2, e3⟩ := low_way (x := x) (y := y) (show d ≠ 0 by omega)
  have hv := low_valid (x := x) (y := y) h
  have hd := (low_den (x := x) (y := y) h).1
  generalize lowV x y d = l at *
  obtain ⟨l1, l2, l3⟩ := l
  simp only at *
  constructor
  · intro e
    injection e with e4 e5
    injection e5 with e5 e6
    subst e4 e5 e6
    rw [e1, e2, e3]
    constructor <;> grind
  · rintro ⟨h1, h2⟩
    have n : g ≠ 0 := by omega
    have k1 : l1 = px * l3 := Int.eq_of_mul_eq_mul_left n (by rw [← e1, h1]; conv => lhs; rw [e3]
                                                              grind)
    have k2 : l2 = py * l3 := Int.eq_of_mul_eq_mul_left n (by rw [← e2, h2]; conv => lhs; rw [e3]
                                                              grind)
    have : l3 ∣ (gcd3 l1 l2 l3 : Int) := dvd_gcd3 ⟨px, by rw [k1, Int.mul_comm]⟩ ⟨py, by rw [k2, Int.mul_comm]⟩ (Int.dvd_refl _)
    rw [hv] at this
    have h3 : l3 = 1 := Int.eq_one_of_dvd_one (by omega) this
    subst h3
    rw [k1, k2]
    simp
end Go.Proofs.Ytahamffngmdjfaa.G
