/-
  seg, plain: the order of rational numbers and points; integers only, no program. Condition: positive denominators.
  seg and its reference: the greatest common divisor, points in lowest terms. Conditions: numbers within 2^62; the denominator is positive.
-/
import Derived.Test.YthifljljaejfmaaJ08
import Derived.Test.YthifljljaejfmaaJ04
namespace Go.Proofs.Ythifljljaejfmaa.G
open Go.Proofs.Ythifljljaejfmaa.V
/-- the order of two quotients with positive denominators -/
def qcmp (a m b n : Int) : Int := sgn (a * n - b * m)
theorem sgn_pos {n : Int} (h : 0 < n) : sgn n = 1 := by
  rcases sgn_cases n with ⟨_, e⟩ | ⟨_, e⟩ | ⟨_, e⟩ <;> omega
theorem sgn_negv {n : Int} (h : n < 0) : sgn n = -1 := by
  rcases sgn_cases n with ⟨_, e⟩ | ⟨_, e⟩ | ⟨_, e⟩ <;> omega
theorem sgn_zero_iff (n : Int) : sgn n = 0 ↔ n = 0 := by
  rcases sgn_cases n with ⟨_, e⟩ | ⟨_, e⟩ | ⟨_, e⟩ <;> omega
theorem sgn_nonpos_iff (n : Int) : sgn n ≤ 0 ↔ n ≤ 0 := by
  rcases sgn_cases n with ⟨_, e⟩ | ⟨_, e⟩ | ⟨_, e⟩ <;> omega
theorem sgn_negate (n : Int) : sgn (-n) = -sgn n := by
  rcases sgn_cases n with ⟨_, e⟩ | ⟨_, e⟩ | ⟨_, e⟩ <;> rcases sgn_cases (-n) with ⟨_, f⟩ | ⟨_, f⟩ | ⟨_, f⟩ <;> omega
/-- whole parts apart -/
theorem apart_lt {q r s t m n : Int} (hm : 0 < m) (hn : 0 < n) (h1 : -m < r) (h4 : t < n)
    (hr : 0 ≤ r ∨ q ≤ 0) (ht : t ≤ 0 ∨ 0 ≤ s) (hr' : r ≤ 0 ∨ 0 ≤ q) (ht' : 0 ≤ t ∨ s ≤ 0) (h : s < q) : 0 < (m * q + r) * n - (n * s + t) * m := by
  have e : (m * q + r) * n - (n * s + t) * m = m * n * (q - s) + (r * n - t * m) := by grind
  rw [e]
  have hmn := Int.mul_pos hm hn
  have k : m * n ≤ m * n * (q - s) := by
    have := Int.mul_le_mul_of_nonneg_left (show 1 ≤ q - s by omega) (Int.le_of_lt hmn)
    omega
  have goal : -(m * n) < r * n - t * m := by
    by_cases hq : 0 < q
    · have r0 : 0 ≤ r := by omega
      have a1 := Int.mul_nonneg r0 (Int.le_of_lt hn)
      have a2 := Int.mul_lt_mul_of_pos_right h4 hm
      rw [Int.mul_comm n m] at a2
      omega
    · have t0 : t ≤ 0 := by omega
      have a1 := Int.mul_nonpos_of_nonpos_of_nonneg t0 (Int.le_of_lt hm)
      have a2 := Int.mul_lt_mul_of_pos_right h1 hn
      rw [Int.neg_mul] at a2
      omega
  omega
theorem tm_way (a m : Int) (hm : 0 < m) : a = m * a.tdiv m + a.tmod m ∧ -m < a.tmod m ∧ a.tmod m < m ∧ (0 ≤ a.tmod m ∨ a.tdiv m ≤ 0) ∧ (a.tmod m ≤ 0 ∨ 0 ≤ a.tdiv m) := by
  have h0 := Int.mul_tdiv_add_tmod a m
  rcases Int.le_total 0 a with h | h
  · have h1 := Int.tmod_nonneg m h
    have h2 := Int.tmod_lt_of_pos a hm
    have h3 := Int.tdiv_nonneg h (Int.le_of_lt hm)
    omega
  · have h1 := Int.tmod_nonneg m (show 0 ≤ -a by omega)
    have h2 := Int.tmod_lt_of_pos (-a) hm
    have h3 := Int.tdiv_nonneg (show 0 ≤ -a by omega) (Int.le_of_lt hm)
    rw [Int.neg_tmod] at h1 h2
    rw [Int.neg_tdiv] at h3
    omega
theorem qcmp_trunc {a m b n : Int} (hm : 0 < m) (hn : 0 < n) : (if sgn (a.tdiv m - b.tdiv n) ≠ 0 then sgn (a.tdiv m - b.tdiv n) else sgn (a.tmod m * n - b.tmod n * m)) = qcmp a m b n := by
  obtain ⟨h0, h1, h2, h3, h4⟩ := tm_way a m hm
  obtain ⟨g0, g1, g2, g3, g4⟩ := tm_way b n hn
  unfold qcmp
  conv => rhs; rw [h0, g0]
  generalize a.tdiv m = q at *
  generalize a.tmod m = r at *
  generalize b.tdiv n = s at *
  generalize b.tmod n = t at *
  rcases sgn_cases (q - s) with ⟨k, e⟩ | ⟨k, e⟩ | ⟨k, e⟩
  · rw [e, if_pos (by omega)]
    have := apart_lt hn hm g1 h2 g3 (by omega) g4 (by omega) (show q < s by omega)
    rw [sgn_negv (by omega)]
  · rw [e, if_neg (by omega)]
    obtain rfl : q = s := by omega
    congr 1
    grind
  · rw [e, if_pos (by omega)]
    have := apart_lt hm hn h1 g2 h3 (by omega) h4 (by omega) (show s < q by omega)
    rw [sgn_pos (by omega)]
/-- the whole part and the rest that is not negative -/
def flQ (a b : Int) : Int × Int := if a.tmod b < 0 then (a.tdiv b - 1, a.tmod b + b) else (a.tdiv b, a.tmod b)
theorem fl_way (a m : Int) (hm : 0 < m) : a = m * (flQ a m).1 + (flQ a m).2 ∧ 0 ≤ (flQ a m).2 ∧ (flQ a m).2 < m := by
  obtain ⟨h0, h1, h2, h3, h4⟩ := tm_way a m hm
  unfold flQ
  split
  · simp only
    rw [Int.mul_sub]
    omega
  · simp only
    omega
theorem qcmp_floor {a m b n : Int} (hm : 0 < m) (hn : 0 < n) : (if (flQ a m).1 ≠ (flQ b n).1 then sgn ((flQ a m).1 - (flQ b n).1) else sgn ((flQ a m).2 * n - (flQ b n).2 * m)) = qcmp a m b n := by
  obtain ⟨h0, h1, h2⟩ := fl_way a m hm
  obtain ⟨g0, g1, g2⟩ := fl_way b n hn
  unfold qcmp
  conv => rhs; rw [h0, g0]
  generalize flQ a m = F at *
  generalize flQ b n = G at *
  obtain ⟨q, r⟩ := F
  obtain ⟨s, t⟩ := G
  simp only at *
  have key : ∀ {q r s t m n : Int}, 0 < m → 0 < n → 0 ≤ r → t < n → s < q → 0 < (m * q + r) * n - (n * s + t) * m := by
    intro q r s t m n hm hn hr ht h
    have e : (m * q + r) * n - (n * s + t) * m = m * n * (q - s) + (r * n - t * m) := by grind
    rw [e]
    have hmn := Int.mul_pos hm hn
    have k := Int.mul_le_mul_of_nonneg_left (show 1 ≤ q - s by omega) (Int.le_of_lt hmn)
    have a1 := Int.mul_nonneg hr (Int.le_of_lt hn)
    have a2 := Int.mul_lt_mul_of_pos_right ht hm
    rw [Int.mul_comm n m] at a2
    omega
  by_cases h : q = s
  · subst h
    rw [if_neg (by simp)]
    congr 1
    grind
  · rw [if_pos h]
    rcases Int.lt_or_gt_of_ne h with k | k
    · have := key hn hm g1 h2 k
      rw [sgn_negv (by omega), sgn_negv (by omega)]
    · have := key hm hn h1 g2 k
      rw [sgn_pos (by omega), sgn_pos (by omega)]
theorem qcmp_opp (a m b n : Int) : qcmp b n a m = -qcmp a m b n := by
  unfold qcmp
  rw [← sgn_negate]
  congr 1
  omega
theorem qcmp_trans {a m b n c k : Int} (hm : 0 < m) (hn : 0 < n) (hk : 0 < k) (h1 : qcmp a m b n ≤ 0) (h2 : qcmp b n c k ≤ 0) : qcmp a m c k ≤ 0 ∧ (qcmp a m c k = 0 → qcmp a m b n = 0 ∧ qcmp b n c k = 0) := by
  unfold qcmp at *
  rw [sgn_nonpos_iff] at h1 h2
  rw [sgn_nonpos_iff, sgn_zero_iff, sgn_zero_iff, sgn_zero_iff]
  have e1 := Int.mul_le_mul_of_nonneg_right (show a * n ≤ b * m by omega) (Int.le_of_lt hk)
  have e2 := Int.mul_le_mul_of_nonneg_right (show b * k ≤ c * n by omega) (Int.le_of_lt hm)
  have s1 : a * n * k = n * (a * k) := by grind
  have s2 : b * m * k = b * k * m := by grind
  have s3 : c * n * m = n * (c * m) := by grind
  rw [s1, s2] at e1
  rw [s3] at e2
  have e3 := Int.le_trans e1 e2
  refine ⟨by have := Int.le_of_mul_le_mul_left e3 hn; omega, fun h => ?_⟩
  have h : a * k = c * m := by omega
  rw [h] at e1 e3
  have e4 : b * k * m = n * (c * m) := by omega
  constructor
  · have : b * k * m = k * (b * m) := by grind
    have t : k * (b * m) = k * (a * n) := by rw [← this, e4, ← h]; grind
    have := Int.eq_of_mul_eq_mul_left (by omega) t
    omega
  · have t : m * (b * k) = m * (c * n) := by rw [Int.mul_comm m (b * k), e4]; grind
    have := Int.eq_of_mul_eq_mul_left (by omega) t
    omega
/-- the order of two points: by the second coordinate, then by the first one -/
def pcmp (x y d x' y' d' : Int) : Int := if qcmp y d y' d' ≠ 0 then qcmp y d y' d' else qcmp x d x' d'
theorem pcmp_opp (x y d x' y' d' : Int) : pcmp x' y' d' x y d = -pcmp x y d x' y' d' := by
  unfold pcmp
  rw [qcmp_opp y d y' d', qcmp_opp x d x' d']
  by_cases h : qcmp y d y' d' = 0
  · rw [h]; simp
  · rw [if_pos h, if_pos (by omega)]
theorem pcmp_trans {x y d x' y' d' x'' y'' d'' : Int} (hd : 0 < d) (hd' : 0 < d') (hd'' : 0 < d'') (h1 : pcmp x y d x' y' d' ≤ 0) (h2 : pcmp x' y' d' x'' y'' d'' ≤ 0) : pcmp x y d x'' y'' d'' ≤ 0 := by
  unfold pcmp at *
  have ty := @qcmp_trans y d y' d' y'' d'' hd hd' hd''
  have tx := @qcmp_trans x d x' d' x'' d'' hd hd' hd''
  by_cases a : qcmp y d y' d' = 0
  · rw [if_neg (by omega)] at h1
    by_cases b : qcmp y' d' y'' d'' = 0
    · rw [if_neg (by omega)] at h2
      have t := ty (by omega) (by omega)
      by_cases c : qcmp y d y'' d'' = 0
      · rw [if_neg (by omega)]
        exact (tx h1 h2).1
      · rw [if_pos c]
        exact t.1
    · rw [if_pos b] at h2
      have t := ty (by omega) (by omega)
      by_cases c : qcmp y d y'' d'' = 0
      · exact absurd (t.2 c).2 b
      · rw [if_pos c]
        exact t.1
  · rw [if_pos a] at h1
    by_cases b : qcmp y' d' y'' d'' = 0
    · have t := ty (by omega) (by omega)
      by_cases c : qcmp y d y'' d'' = 0
      · exact absurd (t.2 c).1 a
      · rw [if_pos c]
        exact t.1
    · rw [if_pos b] at h2
      have t := ty (by omega) (by omega)
      by_cases c : qcmp y d y'' d'' = 0
      · exact absurd (t.2 c).1 a
      · rw [if_pos c]
        exact t.1
theorem low_same {x y d x' y' d' : Int} (hd : 0 < d) (hd' : 0 < d') (h : gcd3 x y d = 1) (h' : gcd3 x' y' d' = 1) (hx : x * d' = x' * d) (hy : y * d' = y' * d) : x = x' ∧ y = y' ∧ d = d' := by
  have key : ∀ {x y d x' y' d' : Int}, gcd3 x y d = 1 → x * d' = x' * d → y * d' = y' * d → d ∣ d' := by
    intro x y d x' y' d' h hx hy
    have h1 : d ∣ (Int.gcd (x * d') (y * d') : Int) := Int.dvd_coe_gcd ⟨x', by rw [hx, Int.mul_comm]⟩ ⟨y', by rw [hy, Int.mul_comm]⟩
    rw [Int.gcd_mul_right] at h1
    have h2 : d ∣ (Int.gcd ((Int.gcd x y : Nat) * (d'.natAbs : Int)) (d * (d'.natAbs : Int)) : Int) := by
      refine Int.dvd_coe_gcd ?_ (Int.dvd_mul_right ..)
      rw [← Int.natCast_mul]
      exact h1
    rw [Int.gcd_mul_right] at h2
    have h3 : Int.gcd (Int.gcd x y : Nat) d = 1 := h
    rw [h3] at h2
    rw [Nat.one_mul, Int.natAbs_natCast] at h2
    exact Int.dvd_natAbs.1 h2
  have d1 := key h hx hy
  have d2 := key h' hx.symm hy.symm
  have e := Int.dvd_antisymm (by omega) (by omega) d1 d2
  subst e
  exact ⟨Int.eq_of_mul_eq_mul_right (by omega) hx, Int.eq_of_mul_eq_mul_right (by omega) hy, rfl⟩
theorem pcmp_zero {x y d x' y' d' : Int} (hd : 0 < d) (hd' : 0 < d') (h : gcd3 x y d = 1) (h' : gcd3 x' y' d' = 1) : pcmp x y d x' y' d' = 0 ↔ x = x' ∧ y = y' ∧ d = d' := by
  constructor
  · intro e
    unfold pcmp at e
    by_cases a : qcmp y d y' d' = 0
    · rw [if_neg (by omega)] at e
      unfold qcmp at a e
      rw [sgn_zero_iff] at a e
      exact low_same hd hd' h h' (by omega) (by omega)
    · rw [if_pos a] at e
      exact absurd e a
  · rintro ⟨rfl, rfl, rfl⟩
    unfold pcmp qcmp
    rw [Int.sub_self, Int.sub_self]
    rfl
end Go.Proofs.Ythifljljaejfmaa.G

namespace Go.Proofs.Ythifljljaejfmaa.W
open Go.RowKit Go.Proofs.Ythifljljaejfmaa.V Go.Proofs.Ythifljljaejfmaa.G

def Mid (a : Int) : Prop := -4611686018427387904 ≤ a ∧ a ≤ 4611686018427387904
theorem tmod_small (a b : Int) (h : b ≠ 0) : (a.tmod b).natAbs < b.natAbs := by
  rw [Int.natAbs_tmod]
  exact Nat.mod_lt _ (by omega)
theorem gcd_tmod (a b : Int) : Int.gcd b (a.tmod b) = Int.gcd a b := by
  show Nat.gcd b.natAbs (a.tmod b).natAbs = Nat.gcd a.natAbs b.natAbs
  rw [Int.natAbs_tmod, Nat.gcd_comm, ← Nat.gcd_rec, Nat.gcd_comm]
theorem wrap_mid {a : Int} (h : -9223372036854775808 ≤ a ∧ a ≤ 9223372036854775807) : IntKind.i64.wrap a = a := by
  rw [IntKind.wrap_i64]
  omega
theorem gcd_any (a b : Int) (ha : Mid a) (hb : Mid b) (w : World) : Calls Try.prog 42 #[.int .i64 a, .int .i64 b] w fun e w' => e = .returned (.int .i64 (Int.gcd a b : Nat)) ∧ Nw w w' := by
  have HA := Lib.hid ha
  have HB := Lib.hid hb
  clear ha hb
  go_enter Try.func42, Try.ntmps42
  go_wp2
  go_loopw [0, 1] (fun u v wr => ∃ x y : Int, u = .int .i64 x ∧ v = .int .i64 y ∧ Mid x ∧ Mid y ∧ Int.gcd x y = Int.gcd a b ∧ Nw w wr) (fun _ v _ => (intOf v).natAbs)
  case atStart => exact ⟨a, b, rfl, rfl, HA.out, HB.out, rfl, Kp.refl _ _⟩
  case round =>
    obtain ⟨x, y, rfl, rfl, hx, hy, hg, hn⟩ := hrel
    have HX := Lib.hid hx
    have HY := Lib.hid hy
    have HG := Lib.hid hg
    have HN := Lib.hid hn
    clear hx hy hg hn
    by_cases h0 : y = 0
    · subst h0
      have HRES := Lib.hid (show Int.gcd a b = x.natAbs by rw [← HG.out, Int.gcd_zero_right])
      by_cases hx : x < 0
      · have e1 : decide (x < 0) = true := decide_eq_true hx
        have HL := Lib.hid hx
        clear hx
        go_wp2
        go_ret
        exact ⟨by rw [HRES.out]; have := HX.out.1; have := HX.out.2; have := HL.out; have e := w64_id (n := -x) ⟨by omega, by omega⟩; unfold w64 at e; simp; omega, HN.out⟩
      · have e1 : decide (x < 0) = false := decide_eq_false hx
        have HL := Lib.hid hx
        clear hx
        go_wp2
        go_ret
        exact ⟨by rw [HRES.out]; have := HX.out.1; have := HL.out; simp; omega, HN.out⟩
    · have hne : (y != 0) = true := by simp [h0]
      have hmod : IntKind.i64.wrap (x.tmod y) = x.tmod y := by
        have := tmod_small x y h0
        obtain ⟨_, _⟩ := HY.out
        exact wrap_mid (by omega)
      have hsm := tmod_small x y h0
      obtain ⟨r, hr⟩ : ∃ r, x.tmod y = r := ⟨_, rfl⟩
      have HR := Lib.hid hr
      rw [hr] at hmod hsm
      have HS := Lib.hid hsm
      clear hsm
      go_wp2_with fail
      go_region
      go_wp2
      go_roundw
      case rel => exact ⟨y, r, rfl, rfl, HY.out, by have := HS.out; have := HY.out; unfold Mid at *; omega, by rw [← HR.out, gcd_tmod]; exact HG.out, by repeat (first | exact HN.out | refine Kp.drew ?_)⟩
      case measure => have := HS.out; simp [intOf]; omega
end Go.Proofs.Ythifljljaejfmaa.W
