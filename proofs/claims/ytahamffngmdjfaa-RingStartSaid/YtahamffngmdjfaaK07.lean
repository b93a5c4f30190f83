/-
  seg, plain: the order of rational numbers and points; integers only, no program. Condition: positive denominators.
  seg and its reference: the greatest common divisor, points in lowest terms. Conditions: numbers within 2^62; the denominator is positive.
  seg and its reference: valid points, points that are compared, Whole, PointOf: what each returns. Condition: none.
  seg and its reference: lowest, PointOf, Whole; Meet and Share of seg. Conditions: for lowest, numbers within 2^61 and a denominator that is not 0.
-/
import Derived.Test.YtahamffngmdjfaaK06
import Derived.Test.YtahamffngmdjfaaK04
import Derived.BigRegion
namespace Go.Proofs.Ytahamffngmdjfaa.G
open Go.Proofs.Ytahamffngmdjfaa.V
/-- the order of two quotients with positive denominators -/
def qcmp (a m b n : Int) : Int := sgn (a * n - b * m)
theorem sgn_pos {n : Int} (h : 0 < n) : sgn n = 1 := by
  rcases sgn_cases n with ⟨_, e⟩ | ⟨_, e⟩ | ⟨_, e⟩ <;> omega
theorem sgn_negv {n : Int} (h : n < 0) : sgn n = -1 := by
  rcases sgn_cases n with ⟨_, e⟩ | ⟨_, e⟩ | ⟨_, e⟩ <;> omega
theorem sgn_zero_iff (n : Int) : sgn n = 0 ↔ n = 0 := by
  rcases sgn_cases n with ⟨_, e⟩ | ⟨_, e⟩ | ⟨_, e⟩ <;> omega
theorem sgn_nonpos_iff (n : Int) : sgn n ≤ 0 ↔ n ≤ 0 := by
  rcases sgn_cases n with ⟨_, e⟩ | ⟨_, e⟩ | ⟨_, e⟩ <;> omega
theorem sgn_negate (n : Int) : sgn (-n) = -sgn n := by
  rcases sgn_cases n with ⟨_, e⟩ | ⟨_, e⟩ | ⟨_, e⟩ <;> rcases sgn_cases (-n) with ⟨_, f⟩ | ⟨_, f⟩ | ⟨_, f⟩ <;> omega
/-- whole parts apart -/
theorem apart_lt {q r s t m n : Int} (hm : 0 < m) (hn : 0 < n) (h1 : -m < r) (h4 : t < n)
    (hr : 0 ≤ r ∨ q ≤ 0) (ht : t ≤ 0 ∨ 0 ≤ s) (hr' : r ≤ 0 ∨ 0 ≤ q) (ht' : 0 ≤ t ∨ s ≤ 0) (h : s < q) : 0 < (m * q + r) * n - (n * s + t) * m := by
  have e : (m * q + r) * n - (n * s + t) * m = m * n * (q - s) + (r * n - t * m) := by grind
  rw [e]
  have hmn := Int.mul_pos hm hn
  have k : m * n ≤ m * n * (q - s) := by
    have := Int.mul_le_mul_of_nonneg_left (show 1 ≤ q - s by omega) (Int.le_of_lt hmn)
    omega
  have goal : -(m * n) < r * n - t * m := by
    by_cases hq : 0 < q
    · have r0 : 0 ≤ r := by omega
      have a1 := Int.mul_nonneg r0 (Int.le_of_lt hn)
      have a2 := Int.mul_lt_mul_of_pos_right h4 hm
      rw [Int.mul_comm n m] at a2
      omega
    · have t0 : t ≤ 0 := by omega
      have a1 := Int.mul_nonpos_of_nonpos_of_nonneg t0 (Int.le_of_lt hm)
      have a2 := Int.mul_lt_mul_of_pos_right h1 hn
      rw [Int.neg_mul] at a2
      omega
  omega
theorem tm_way (a m : Int) (hm : 0 < m) : a = m * a.tdiv m + a.tmod m ∧ -m < a.tmod m ∧ a.tmod m < m ∧ (0 ≤ a.tmod m ∨ a.tdiv m ≤ 0) ∧ (a.tmod m ≤ 0 ∨ 0 ≤ a.tdiv m) := by
  have h0 := Int.mul_tdiv_add_tmod a m
  rcases Int.le_total 0 a with h | h
  · have h1 := Int.tmod_nonneg m h
    have h2 := Int.tmod_lt_of_pos a hm
    have h3 := Int.tdiv_nonneg h (Int.le_of_lt hm)
    omega
  · have h1 := Int.tmod_nonneg m (show 0 ≤ -a by omega)
    have h2 := Int.tmod_lt_of_pos (-a) hm
    have h3 := Int.tdiv_nonneg (show 0 ≤ -a by omega) (Int.le_of_lt hm)
    rw [Int.neg_tmod] at h1 h2
    rw [Int.neg_tdiv] at h3
    omega
theorem qcmp_trunc {a m b n : Int} (hm : 0 < m) (hn : 0 < n) : (if sgn (a.tdiv m - b.tdiv n) ≠ 0 then sgn (a.tdiv m - b.tdiv n) else sgn (a.tmod m * n - b.tmod n * m)) = qcmp a m b n := by
  obtain ⟨h0, h1, h2, h3, h4⟩ := tm_way a m hm
  obtain ⟨g0, g1, g2, g3, g4⟩ := tm_way b n hn
  unfold qcmp
  conv => rhs; rw [h0, g0]
  generalize a.tdiv m = q at *
  generalize a.tmod m = r at *
  generalize b.tdiv n = s at *
  generalize b.tmod n = t at *
  rcases sgn_cases (q - s) with ⟨k, e⟩ | ⟨k, e⟩ | ⟨k, e⟩
  · rw [e, if_pos (by omega)]
    have := apart_lt hn hm g1 h2 g3 (by omega) g4 (by omega) (show q < s by omega)
    rw [sgn_negv (by omega)]
  · rw [e, if_neg (by omega)]
    obtain rfl : q = s := by omega
    congr 1
    grind
  · rw [e, if_pos (by omega)]
    have := apart_lt hm hn h1 g2 h3 (by omega) h4 (by omega) (show s < q by omega)
    rw [sgn_pos (by omega)]
/-- the whole part and the rest that is not negative -/
def flQ (a b : Int) : Int × Int := if a.tmod b < 0 then (a.tdiv b - 1, a.tmod b + b) else (a.tdiv b, a.tmod b)
theorem fl_way (a m : Int) (hm : 0 < m) : a = m * (flQ a m).1 + (flQ a m).2 ∧ 0 ≤ (flQ a m).2 ∧ (flQ a m).2 < m := by
  obtain ⟨h0, h1, h2, h3, h4⟩ := tm_way a m hm
  unfold flQ
  split
  · simp only
    rw [Int.mul_sub]
    omega
  · simp only
    omega
theorem qcmp_floor {a m b n : Int} (hm : 0 < m) (hn : 0 < n) : (if (flQ a m).1 ≠ (flQ b n).1 then sgn ((flQ a m).1 - (flQ b n).1) else sgn ((flQ a m).2 * n - (flQ b n).2 * m)) = qcmp a m b n := by
  obtain ⟨h0, h1, h2⟩ := fl_way a m hm
  obtain ⟨g0, g1, g2⟩ := fl_way b n hn
  unfold qcmp
  conv => rhs; rw [h0, g0]
  generalize flQ a m = F at *
  generalize flQ b n = G at *
  obtain ⟨q, r⟩ := F
  obtain ⟨s, t⟩ := G
  simp only at *
  have key : ∀ {q r s t m n : Int}, 0 < m → 0 < n → 0 ≤ r → t < n → s < q → 0 < (m * q + r) * n - (n * s + t) * m := by
    intro q r s t m n hm hn hr ht h
    have e : (m * q + r) * n - (n * s + t) * m = m * n * (q - s) + (r * n - t * m) := by grind
    rw [e]
    have hmn := Int.mul_pos hm hn
    have k := Int.mul_le_mul_of_nonneg_left (show 1 ≤ q - s by omega) (Int.le_of_lt hmn)
    have a1 := Int.mul_nonneg hr (Int.le_of_lt hn)
    have a2 := Int.mul_lt_mul_of_pos_right ht hm
    rw [Int.mul_comm n m] at a2
    omega
  by_cases h : q = s
  · subst h
    rw [if_neg (by simp)]
    congr 1
    grind
  · rw [if_pos h]
    rcases Int.lt_or_gt_of_ne h with k | k
    · have := key hn hm g1 h2 k
      rw [sgn_negv (by omega), sgn_negv (by omega)]
    · have := key hm hn h1 g2 k
      rw [sgn_pos (by omega), sgn_pos (by omega)]
theorem qcmp_opp (a m b n : Int) : qcmp b n a m = -qcmp a m b n := by
  unfold qcmp
  rw [← sgn_negate]
  congr 1
  omega
theorem qcmp_trans {a m b n c k : Int} (hm : 0 < m) (hn : 0 < n) (hk : 0 < k) (h1 : qcmp a m b n ≤ 0) (h2 : qcmp b n c k ≤ 0) : qcmp a m c k ≤ 0 ∧ (qcmp a m c k = 0 → qcmp a m b n = 0 ∧ qcmp b n c k = 0) := by
  unfold qcmp at *
  rw [sgn_nonpos_iff] at h1 h2
  rw [sgn_nonpos_iff, sgn_zero_iff, sgn_zero_iff, sgn_zero_iff]
  have e1 := Int.mul_le_mul_of_nonneg_right (show a * n ≤ b * m by omega) (Int.le_of_lt hk)
  have e2 := Int.mul_le_mul_of_nonneg_right (show b * k ≤ c * n by omega) (Int.le_of_lt hm)
  have s1 : a * n * k = n * (a * k) := by grind
  have s2 : b * m * k = b * k * m := by grind
  have s3 : c * n * m = n * (c * m) := by grind
  rw [s1, s2] at e1
  rw [s3] at e2
  have e3 := Int.le_trans e1 e2
  refine ⟨by have := Int.le_of_mul_le_mul_left e3 hn; omega, fun h => ?_⟩
  have h : a * k = c * m := by omega
  rw [h] at e1 e3
  have e4 : b * k * m = n * (c * m) := by omega
  constructor
  · have : b * k * m = k * (b * m) := by grind
    have t : k * (b * m) = k * (a * n) := by rw [← this, e4, ← h]; grind
    have := Int.eq_of_mul_eq_mul_left (by omega) t
    omega
  · have t : m * (b * k) = m * (c * n) := by rw [Int.mul_comm m (b * k), e4]; grind
    have := Int.eq_of_mul_eq_mul_left (by omega) t
    omega
/-- the order of two points: by the second coordinate, then by the first one -/
def pcmp (x y d x' y' d' : Int) : Int := if qcmp y d y' d' ≠ 0 then qcmp y d y' d' else qcmp x d x' d'
theorem pcmp_opp (x y d x' y' d' : Int) : pcmp x' y' d' x y d = -pcmp x y d x' y' d' := by
  unfold pcmp
  rw [qcmp_opp y d y' d', qcmp_opp x d x' d']
  by_cases h : qcmp y d y' d' = 0
  · rw [h]; simp
  · rw [if_pos h, if_pos (by omega)]
theorem pcmp_trans {x y d x' y' d' x'' y'' d'' : Int} (hd : 0 < d) (hd' : 0 < d') (hd'' : 0 < d'') (h1 : pcmp x y d x' y' d' ≤ 0) (h2 : pcmp x' y' d' x'' y'' d'' ≤ 0) : pcmp x y d x'' y'' d'' ≤ 0 := by
  unfold pcmp at *
  have ty := @qcmp_trans y d y' d' y'' d'' hd hd' hd''
  have tx := @qcmp_trans x d x' d' x'' d'' hd hd' hd''
  by_cases a : qcmp y d y' d' = 0
  · rw [if_neg (by omega)] at h1
    by_cases b : qcmp y' d' y'' d'' = 0
    · rw [if_neg (by omega)] at h2
      have t := ty (by omega) (by omega)
      by_cases c : qcmp y d y'' d'' = 0
      · rw [if_neg (by omega)]
        exact (tx h1 h2).1
      · rw [if_pos c]
        exact t.1
    · rw [if_pos b] at h2
      have t := ty (by omega) (by omega)
      by_cases c : qcmp y d y'' d'' = 0
      · exact absurd (t.2 c).2 b
      · rw [if_pos c]
        exact t.1
  · rw [if_pos a] at h1
    by_cases b : qcmp y' d' y'' d'' = 0
    · have t := ty (by omega) (by omega)
      by_cases c : qcmp y d y'' d'' = 0
      · exact absurd (t.2 c).1 a
      · rw [if_pos c]
        exact t.1
    · rw [if_pos b] at h2
      have t := ty (by omega) (by omega)
      by_cases c : qcmp y d y'' d'' = 0
      · exact absurd (t.2 c).1 a
      · rw [if_pos c]
        exact t.1
theorem low_same {x y d x' y' d' : Int} (hd : 0 < d) (hd' : 0 < d') (h : gcd3 x y d = 1) (h' : gcd3 x' y' d' = 1) (hx : x * d' = x' * d) (hy : y * d' = y' * d) : x = x' ∧ y = y' ∧ d = d' := by
  have key : ∀ {x y d x' y' d' : Int}, gcd3 x y d = 1 → x * d' = x' * d → y * d' = y' * d → d ∣ d' := by
    intro x y d x' y' d' h hx hy
    have h1 : d ∣ (Int.gcd (x * d') (y * d') : Int) := Int.dvd_coe_gcd ⟨x', by rw [hx, Int.mul_comm]⟩ ⟨y', by rw [hy, Int.mul_comm]⟩
    rw [Int.gcd_mul_right] at h1
    have h2 : d ∣ (Int.gcd ((Int.gcd x y : Nat) * (d'.natAbs : Int)) (d * (d'.natAbs : Int)) : Int) := by
      refine Int.dvd_coe_gcd ?_ (Int.dvd_mul_right ..)
      rw [← Int.natCast_mul]
      exact h1
    rw [Int.gcd_mul_right] at h2
    have h3 : Int.gcd (Int.gcd x y : Nat) d = 1 := h
    rw [h3] at h2
    rw [Nat.one_mul, Int.natAbs_natCast] at h2
    exact Int.dvd_natAbs.1 h2
  have d1 := key h hx hy
  have d2 := key h' hx.symm hy.symm
  have e := Int.dvd_antisymm (by omega) (by omega) d1 d2
  subst e
  exact ⟨Int.eq_of_mul_eq_mul_right (by omega) hx, Int.eq_of_mul_eq_mul_right (by omega) hy, rfl⟩
theorem pcmp_zero {x y d x' y' d' : Int} (hd : 0 < d) (hd' : 0 < d') (h : gcd3 x y d = 1) (h' : gcd3 x' y' d' = 1) : pcmp x y d x' y' d' = 0 ↔ x = x' ∧ y = y' ∧ d = d' := by
  constructor
  · intro e
    unfold pcmp at e
    by_cases a : qcmp y d y' d' = 0
    · rw [if_neg (by omega)] at e
      unfold qcmp at a e
      rw [sgn_zero_iff] at a e
      exact low_same hd hd' h h' (by omega) (by omega)
    · rw [if_pos a] at e
      exact absurd e a
  · rintro ⟨rfl, rfl, rfl⟩
    unfold pcmp qcmp
    rw [Int.sub_self, Int.sub_self]
    rfl
end Go.Proofs.Ytahamffngmdjfaa.G

namespace Go.Proofs.Ytahamffngmdjfaa.W
open Go.RowKit Go.Proofs.Ytahamffngmdjfaa.V Go.Proofs.Ytahamffngmdjfaa.G

def Mid (a : Int) : Prop := -4611686018427387904 ≤ a ∧ a ≤ 4611686018427387904
theorem tmod_small (a b : Int) (h : b ≠ 0) : (a.tmod b).natAbs < b.natAbs := by
  rw [Int.natAbs_tmod]
  exact Nat.mod_lt _ (by omega)
theorem gcd_tmod (a b : Int) : Int.gcd b (a.tmod b) = Int.gcd a b := by
  show Nat.gcd b.natAbs (a.tmod b).natAbs = Nat.gcd a.natAbs b.natAbs
  rw [Int.natAbs_tmod, Nat.gcd_comm, ← Nat.gcd_rec, Nat.gcd_comm]
theorem wrap_mid {a : Int} (h : -9223372036854775808 ≤ a ∧ a ≤ 9223372036854775807) : IntKind.i64.wrap a = a := by
  rw [IntKind.wrap_i64]
  omega
theorem gcd_any (a b : Int) (ha : Mid a) (hb : Mid b) (w : World) : Calls Try.prog 107 #[.int .i64 a, .int .i64 b] w fun e w' => e = .returned (.int .i64 (Int.gcd a b : Nat)) ∧ Nw w w' := by
  have HA := Lib.hid ha
  have HB := Lib.hid hb
  clear ha hb
  go_enter Try.func107, Try.ntmps107
  go_wp2
  go_loopw [0, 1] (fun u v wr => ∃ x y : Int, u = .int .i64 x ∧ v = .int .i64 y ∧ Mid x ∧ Mid y ∧ Int.gcd x y = Int.gcd a b ∧ Nw w wr) (fun _ v _ => (intOf v).natAbs)
  case atStart => exact ⟨a, b, rfl, rfl, HA.out, HB.out, rfl, Kp.refl _ _⟩
  case round =>
    obtain ⟨x, y, rfl, rfl, hx, hy, hg, hn⟩ := hrel
    have HX := Lib.hid hx
    have HY := Lib.hid hy
    have HG := Lib.hid hg
    have HN := Lib.hid hn
    clear hx hy hg hn
    by_cases h0 : y = 0
    · subst h0
      have HRES := Lib.hid (show Int.gcd a b = x.natAbs by rw [← HG.out, Int.gcd_zero_right])
      by_cases hx : x < 0
      · have e1 : decide (x < 0) = true := decide_eq_true hx
        have HL := Lib.hid hx
        clear hx
        go_wp2
        go_ret
        exact ⟨by rw [HRES.out]; have := HX.out.1; have := HX.out.2; have := HL.out; have e := w64_id (n := -x) ⟨by omega, by omega⟩; unfold w64 at e; simp; omega, HN.out⟩
      · have e1 : decide (x < 0) = false := decide_eq_false hx
        have HL := Lib.hid hx
        clear hx
        go_wp2
        go_ret
        exact ⟨by rw [HRES.out]; have := HX.out.1; have := HL.out; simp; omega, HN.out⟩
    · have hne : (y != 0) = true := by simp [h0]
      have hmod : IntKind.i64.wrap (x.tmod y) = x.tmod y := by
        have := tmod_small x y h0
        obtain ⟨_, _⟩ := HY.out
        exact wrap_mid (by omega)
      have hsm := tmod_small x y h0
      obtain ⟨r, hr⟩ : ∃ r, x.tmod y = r := ⟨_, rfl⟩
      have HR := Lib.hid hr
      rw [hr] at hmod hsm
      have HS := Lib.hid hsm
      clear hsm
      go_wp2_with fail
      go_region
      go_wp2
      go_roundw
      case rel => exact ⟨y, r, rfl, rfl, HY.out, by have := HS.out; have := HY.out; unfold Mid at *; omega, by rw [← HR.out, gcd_tmod]; exact HG.out, by repeat (first | exact HN.out | refine Kp.drew ?_)⟩
      case measure => have := HS.out; simp [intOf]; omega
theorem divisor_any (a b : Int) (ha : 0 ≤ a ∧ a ≤ 4611686018427387904) (hb : 0 ≤ b ∧ b ≤ 4611686018427387904) (w : World) : Calls Try.prog 108 #[.int .i64 a, .int .i64 b] w fun e w' => e = .returned (.int .i64 (Int.gcd a b : Nat)) ∧ Nw w w' := by
  have HA := Lib.hid ha
  have HB := Lib.hid hb
  clear ha hb
  go_enter Try.func108, Try.ntmps108
  go_wp2
  go_loopw [0, 1] (fun u v wr => ∃ x y : Int, u = .int .i64 x ∧ v = .int .i64 y ∧ (0 ≤ x ∧ x ≤ 4611686018427387904) ∧ (0 ≤ y ∧ y ≤ 4611686018427387904) ∧ Int.gcd x y = Int.gcd a b ∧ Nw w wr) (fun _ v _ => (intOf v).natAbs)
  case atStart => exact ⟨a, b, rfl, rfl, HA.out, HB.out, rfl, Kp.refl _ _⟩
  case round =>
    obtain ⟨x, y, rfl, rfl, hx, hy, hg, hn⟩ := hrel
    have HX := Lib.hid hx
    have HY := Lib.hid hy
    have HG := Lib.hid hg
    have HN := Lib.hid hn
    clear hx hy hg hn
    by_cases h0 : y = 0
    · subst h0
      have HRES := Lib.hid (show Int.gcd a b = x.natAbs by rw [← HG.out, Int.gcd_zero_right])
      go_wp2
      go_ret
      exact ⟨by rw [HRES.out]; have := HX.out; simp; omega, HN.out⟩
    · have hne : (y != 0) = true := by simp [h0]
      have hmod : IntKind.i64.wrap (x.tmod y) = x.tmod y := by
        have := tmod_small x y h0
        obtain ⟨_, _⟩ := HY.out
        exact wrap_mid (by omega)
      have hsm := tmod_small x y h0
      have hps := Int.tmod_nonneg y HX.out.1
      obtain ⟨r, hr⟩ : ∃ r, x.tmod y = r := ⟨_, rfl⟩
      have HR := Lib.hid hr
      rw [hr] at hmod hsm hps
      have HS := Lib.hid hsm
      have HT := Lib.hid hps
      clear hsm hps
      go_wp2_with fail
      go_region
      go_wp2
      go_roundw
      case rel => exact ⟨y, r, rfl, rfl, HY.out, by have := HS.out; have := HY.out; have := HT.out; omega, by rw [← HR.out, gcd_tmod]; exact HG.out, by repeat (first | exact HN.out | refine Kp.drew ?_)⟩
      case measure => have := HS.out; simp [intOf]; omega

end Go.Proofs.Ytahamffngmdjfaa.W

namespace Go.Proofs.Ytahamffngmdjfaa.W
open Go.RowKit Go.Proofs.Ytahamffngmdjfaa.V Go.Proofs.Ytahamffngmdjfaa.G

def isDen (d : Int) : Bool := decide (1 ≤ d) && decide (d ≤ 134217728)
def inPt (x y d m : Int) : Bool := isDen d && withinV x y (w64 (m * d))
def validP (x y d : Int) : Bool := inPt x y d 4000 && (gcd3 x y d == 1)
def nearP (x y d : Int) : Bool := inPt x y d 2000 && validP x y d
theorem den_iff (d : Int) : isDen d = true ↔ 1 ≤ d ∧ d ≤ 134217728 := by
  unfold isDen
  simp
theorem in_mid {x y d m : Int} (hm : 0 ≤ m ∧ m ≤ 4000) (h : inPt x y d m = true) : (1 ≤ d ∧ d ≤ 134217728) ∧ (-(m * d) ≤ x ∧ x ≤ m * d ∧ -(m * d) ≤ y ∧ y ≤ m * d) ∧ 0 ≤ m * d ∧ m * d ≤ 536870912000 := by
  unfold inPt at h
  rw [Bool.and_eq_true, den_iff] at h
  obtain ⟨h, g⟩ := h
  have a := Int.mul_nonneg hm.1 (show 0 ≤ d by omega)
  have b := Int.mul_le_mul hm.2 h.2 (by omega) (by omega)
  unfold withinV at g
  rw [w64_id (n := m * d) ⟨by omega, by omega⟩, w64_id (n := -(m * d)) ⟨by omega, by omega⟩] at g
  simp at g
  exact ⟨h, ⟨g.1.1.1, g.1.1.2, g.1.2, g.2⟩, a, by omega⟩

set_option maxHeartbeats 1600000 in
theorem isWithin_any (x y d m : Int) (w : World) : Calls Try.prog 106 #[pV x y d, .int .i64 m] w fun e w' => e = .returned (.bool (inPt x y d m)) ∧ Nw w w' := by
  have c2 := fun w1 => within_any x y (w64 (m * d)) w1
  have hw := i64_w (m * d)
  unfold inPt isDen
  generalize withinV x y (w64 (m * d)) = b at *
  generalize w64 (m * d) = z at *
  have hb0 := Blk.new_at w 50 #[.int .i64 x, .int .i64 y, .int .i64 d] (n := w.heap.size) (by simp)
  have hk0 : ∀ p : KeptW (w.alloc (.cells #[.int .i64 x, .int .i64 y, .int .i64 d] 50)), Blk p.wd (w.heap.size) 50 #[.int .i64 x, .int .i64 y, .int .i64 d] := fun p => hb0.kept p
  have q0 := fun p => (hk0 p).cell 0
  have q1 := fun p => (hk0 p).cell 1
  have q2 := fun p => (hk0 p).cell 2
  skip
  clear hb0 hk0
  by_cases h1 : 1 ≤ d
  · by_cases h2 : d ≤ 134217728
    · have e1 : decide (1 ≤ d) = true := decide_eq_true h1
      have e2 : decide (d ≤ 134217728) = true := decide_eq_true h2
      clear h1 h2
      go_enter Try.func106, Try.ntmps106
      go_wp2_with (first | (go_at_call 42; ((with_reducible refine (Calls.kept_first (c2 _)).mono ?_); rintro e _ ⟨rfl, p, rfl⟩)) | fail)
      go_ret
      exact ⟨by simp [e1, e2], ((nw_alloc _ _)).tr p.since⟩
    · have e1 : decide (1 ≤ d) = true := decide_eq_true h1
      have e2 : decide (d ≤ 134217728) = false := decide_eq_false h2
      clear h1 h2
      go_enter Try.func106, Try.ntmps106
      go_wp2
      go_ret
      exact ⟨by simp [e1, e2], by repeat (first | exact Kp.refl _ _ | refine Kp.alloc ?_ _)⟩
  · have e1 : decide (1 ≤ d) = false := decide_eq_false h1
    clear h1
    go_enter Try.func106, Try.ntmps106
    go_wp2
    go_ret
    exact ⟨by simp [e1], by repeat (first | exact Kp.refl _ _ | refine Kp.alloc ?_ _)⟩

set_option maxHeartbeats 1600000 in
theorem validPoint_any (x y d : Int) (w : World) : Calls Try.prog 68 #[pV x y d] w fun e w' => e = .returned (.bool (validP x y d)) ∧ Nw w w' := by
  have c1 := fun w1 => isWithin_any x y d 4000 w1
  have hmix := mixed7
  unfold validP
  have hb0 := Blk.new_at w 50 #[.int .i64 x, .int .i64 y, .int .i64 d] (n := w.heap.size) (by simp)
  have hk0 : ∀ p : KeptW (w.alloc (.cells #[.int .i64 x, .int .i64 y, .int .i64 d] 50)), Blk p.wd (w.heap.size) 50 #[.int .i64 x, .int .i64 y, .int .i64 d] := fun p => hb0.kept p
  have q0 := fun p => (hk0 p).cell 0
  have q1 := fun p => (hk0 p).cell 1
  have q2 := fun p => (hk0 p).cell 2
  skip
  clear hb0 hk0
  by_cases h : inPt x y d 4000 = true
  · obtain ⟨h1, h2, h3⟩ := in_mid (by omega) h
    have c2 := fun w1 => gcd_any x y (by unfold Mid; omega) (by unfold Mid; omega) w1
    have hg : ((Int.gcd x y : Nat) : Int) ≤ 536870912000 := by
      by_cases hx : x = 0
      · subst hx
        rw [Int.gcd_zero_left]
        omega
      · have := Int.gcd_le_natAbs_left y hx
        omega
    have c3 := fun w1 => gcd_any (Int.gcd x y : Nat) d (by unfold Mid; omega) (by unfold Mid; omega) w1
    have hr : (((Int.gcd (Int.gcd x y : Nat) d : Nat) : Int) == 1) = (gcd3 x y d == 1) := by
      unfold gcd3
      apply Bool.eq_iff_iff.2
      simp
      omega
    rw [h] at c1 ⊢
    clear h h1 h2 h3 hg
    generalize ((Int.gcd (Int.gcd x y : Nat) d : Nat) : Int) = r at *
    generalize ((Int.gcd x y : Nat) : Int) = s at *
    generalize (gcd3 x y d == 1) = z at *
    go_enter Try.func68, Try.ntmps68
    go_wp2_with fail
    refine wp_region_kept (Kp.refl _ _) (by assumption) (by kernel_rfl) ?_
    repeat (with_reducible refine wpQuiet_step (fun K hK => ?_); go_simp; first | ((with_reducible refine hK _ ?_); clear hK K) | (with_reducible apply Exists.intro; (with_reducible refine ⟨fun _ => ?_, hK _ ?_⟩); ((first | (go_at_call 106; with_reducible exact Calls.kept_of (c1 _)) | (go_at_call 107; with_reducible exact Calls.kept_of (c2 _)) | (go_at_call 107; with_reducible exact Calls.kept_of (c3 _)) | fail)); clear hK K))
    with_reducible refine wpQuiet_nil ?_
    rintro _ ⟨p, rfl⟩
    go_wp2
    go_ret
    exact ⟨by simp, ((nw_alloc _ _)).tr p.since⟩
  · rw [Bool.not_eq_true] at h
    rw [h] at c1 ⊢
    clear h
    go_enter Try.func68, Try.ntmps68
    go_wp2_with fail
    refine wp_region_kept (Kp.refl _ _) (by assumption) (by kernel_rfl) ?_
    repeat (with_reducible refine wpQuiet_step (fun K hK => ?_); go_simp; first | ((with_reducible refine hK _ ?_); clear hK K) | (with_reducible apply Exists.intro; (with_reducible refine ⟨fun _ => ?_, hK _ ?_⟩); ((first | (go_at_call 106; with_reducible exact Calls.kept_of (c1 _)) | fail)); clear hK K))
    with_reducible refine wpQuiet_nil ?_
    rintro _ ⟨p, rfl⟩
    go_wp2
    go_ret
    exact ⟨rfl, ((nw_alloc _ _)).tr p.since⟩

set_option maxHeartbeats 1600000 in
theorem isCompared_any (x y d : Int) (w : World) : Calls Try.prog 109 #[pV x y d] w fun e w' => e = .returned (.bool (nearP x y d)) ∧ Nw w w' := by
  have c1 := fun w1 => isWithin_any x y d 2000 w1
  have c2 := fun w1 => validPoint_any x y d w1
  unfold nearP
  generalize inPt x y d 2000 = a at *
  generalize validP x y d = b at *
  have hb0 := Blk.new_at w 50 #[.int .i64 x, .int .i64 y, .int .i64 d] (n := w.heap.size) (by simp)
  have hk0 : ∀ p : KeptW (w.alloc (.cells #[.int .i64 x, .int .i64 y, .int .i64 d] 50)), Blk p.wd (w.heap.size) 50 #[.int .i64 x, .int .i64 y, .int .i64 d] := fun p => hb0.kept p
  have q0 := fun p => (hk0 p).cell 0
  have q1 := fun p => (hk0 p).cell 1
  have q2 := fun p => (hk0 p).cell 2
  skip
  clear hb0 hk0
  cases a
  · go_enter Try.func109, Try.ntmps109
    go_wp2_with (first | (go_at_call 106; ((with_reducible refine (Calls.kept_first (c1 _)).mono ?_); rintro e _ ⟨rfl, p, rfl⟩)) | (go_at_call 68; ((with_reducible refine (Calls.kept_of (c2 _)).mono ?_); rintro e _ ⟨rfl, p, rfl⟩)) | fail)
    go_ret
    exact ⟨by simp, ((nw_alloc _ _)).tr p.since⟩
  · go_enter Try.func109, Try.ntmps109
    go_wp2_with (first | (go_at_call 106; ((with_reducible refine (Calls.kept_first (c1 _)).mono ?_); rintro e _ ⟨rfl, p, rfl⟩)) | (go_at_call 68; ((with_reducible refine (Calls.kept_of (c2 _)).mono ?_); rintro e _ ⟨rfl, p, rfl⟩)) | fail)
    go_ret
    exact ⟨by simp, ((nw_alloc _ _)).tr p.since⟩

set_option maxHeartbeats 3200000 in
theorem rvalidPoint_any (x y d : Int) (w : World) : Calls Try.prog 69 #[pV x y d] w fun e w' => e = .returned (.bool (validP x y d)) ∧ Nw w w' := by
  have hmix := mixed7
  have hb0 := Blk.new_at w 50 #[.int .i64 x, .int .i64 y, .int .i64 d] (n := w.heap.size) (by simp)
  have hk0 : ∀ p : KeptW (w.alloc (.cells #[.int .i64 x, .int .i64 y, .int .i64 d] 50)), Blk p.wd (w.heap.size) 50 #[.int .i64 x, .int .i64 y, .int .i64 d] := fun p => hb0.kept p
  have q0 := fun p => (hk0 p).cell 0
  have q1 := fun p => (hk0 p).cell 1
  have q2 := fun p => (hk0 p).cell 2
  skip
  clear hb0 hk0
  by_cases h1 : d < 1
  · have e1 : decide (d < 1) = true := decide_eq_true h1
    have hv : validP x y d = false := by unfold validP inPt isDen; rw [decide_eq_false (show ¬ 1 ≤ d by omega)]; rfl
    rw [hv]
    clear h1 hv
    go_enter Try.func69, Try.ntmps69
    go_wp2
    go_ret
    exact ⟨rfl, by repeat (first | exact Kp.refl _ _ | refine Kp.alloc ?_ _)⟩
  by_cases h2 : d > 134217728
  · have e1 : decide (d < 1) = false := decide_eq_false h1
    have e2 : decide (d > 134217728) = true := decide_eq_true h2
    have hv : validP x y d = false := by unfold validP inPt isDen; rw [decide_eq_false (show ¬ d ≤ 134217728 by omega)]; simp
    rw [hv]
    clear h1 h2 hv
    go_enter Try.func69, Try.ntmps69
    go_wp2
    go_ret
    exact ⟨rfl, by repeat (first | exact Kp.refl _ _ | refine Kp.alloc ?_ _)⟩
  obtain ⟨l, hl⟩ : ∃ l, -4000 * d = l := ⟨_, rfl⟩
  obtain ⟨u, hu⟩ : ∃ u, 4000 * d = u := ⟨_, rfl⟩
  have hb : -536870912000 ≤ l ∧ u ≤ 536870912000 := by omega
  have m1 : IntKind.i64.wrap (-4000 * d) = l := by rw [← hl]; exact wrap_mid (by omega)
  have m2 : IntKind.i64.wrap (4000 * d) = u := by rw [← hu]; exact wrap_mid (by omega)
  have m3 : wrap64 (-4000 * d) = l := by rw [← hl, w64_def, w64_id ⟨by omega, by omega⟩]
  have m4 : wrap64 (4000 * d) = u := by rw [← hu, w64_def, w64_id ⟨by omega, by omega⟩]
  have hin : inPt x y d 4000 = (decide (l ≤ x) && decide (x ≤ u) && decide (l ≤ y) && decide (y ≤ u)) := by
    unfold inPt withinV
    rw [(den_iff d).2 ⟨by omega, by omega⟩, w64_id (n := 4000 * d) ⟨by omega, by omega⟩, w64_id (n := -(4000 * d)) ⟨by omega, by omega⟩, show -(4000 * d) = l by omega, hu]
    rfl
  have hdd : 0 ≤ d ∧ d ≤ 134217728 := by omega
  clear hl hu
  have e1 : decide (d < 1) = false := decide_eq_false h1
  have e2 : decide (d > 134217728) = false := decide_eq_false h2
  by_cases g0 : x < l
  · have hv : validP x y d = false := by unfold validP; rw [hin, decide_eq_false (show ¬ l ≤ x by omega)]; simp
    rw [hv]
    have f0 : decide (x < l) = true := decide_eq_true g0
    clear h1 h2 hv hin hb hdd g0
    go_enter Try.func69, Try.ntmps69
    go_wp2
    go_ret
    exact ⟨rfl, by repeat (first | exact Kp.refl _ _ | refine Kp.alloc ?_ _)⟩
  by_cases g1 : u < x
  · have hv : validP x y d = false := by unfold validP; rw [hin, decide_eq_false (show ¬ x ≤ u by omega)]; simp
    rw [hv]
    have f0 : decide (x < l) = false := decide_eq_false g0
    have f1 : decide (u < x) = true := decide_eq_true g1
    clear h1 h2 hv hin hb hdd g0 g1
    go_enter Try.func69, Try.ntmps69
    go_wp2
    go_ret
    exact ⟨rfl, by repeat (first | exact Kp.refl _ _ | refine Kp.alloc ?_ _)⟩
  by_cases g2 : y < l
  · have hv : validP x y d = false := by unfold validP; rw [hin, decide_eq_false (show ¬ l ≤ y by omega)]; simp
    rw [hv]
    have f0 : decide (x < l) = false := decide_eq_false g0
    have f1 : decide (u < x) = false := decide_eq_false g1
    have f2 : decide (y < l) = true := decide_eq_true g2
    clear h1 h2 hv hin hb hdd g0 g1 g2
    go_enter Try.func69, Try.ntmps69
    go_wp2
    go_ret
    exact ⟨rfl, by repeat (first | exact Kp.refl _ _ | refine Kp.alloc ?_ _)⟩
  by_cases g3 : u < y
  · have hv : validP x y d = false := by unfold validP; rw [hin, decide_eq_false (show ¬ y ≤ u by omega)]; simp
    rw [hv]
    have f0 : decide (x < l) = false := decide_eq_false g0
    have f1 : decide (u < x) = false := decide_eq_false g1
    have f2 : decide (y < l) = false := decide_eq_false g2
    have f3 : decide (u < y) = true := decide_eq_true g3
    clear h1 h2 hv hin hb hdd g0 g1 g2 g3
    go_enter Try.func69, Try.ntmps69
    go_wp2
    go_ret
    exact ⟨rfl, by repeat (first | exact Kp.refl _ _ | refine Kp.alloc ?_ _)⟩
  have hv : validP x y d = (gcd3 x y d == 1) := by
    unfold validP
    rw [hin, decide_eq_true (show l ≤ x by omega), decide_eq_true (show x ≤ u by omega), decide_eq_true (show l ≤ y by omega), decide_eq_true (show y ≤ u by omega)]
    rfl
  rw [hv]
  have ax : absV x = (x.natAbs : Nat) := by unfold absV; split; · omega
                                            · rw [w64_id ⟨by omega, by omega⟩]; omega
  have ay : absV y = (y.natAbs : Nat) := by unfold absV; split; · omega
                                            · rw [w64_id ⟨by omega, by omega⟩]; omega
  have a1 := fun w1 => rabs_any x w1
  have a2 := fun w1 => rabs_any y w1
  rw [ax] at a1
  rw [ay] at a2
  have hgc : Int.gcd (x.natAbs : Nat) (y.natAbs : Nat) = Int.gcd x y := by show Nat.gcd (x.natAbs : Int).natAbs (y.natAbs : Int).natAbs = _; rw [Int.natAbs_natCast, Int.natAbs_natCast]; rfl
  have c2 := fun w1 => divisor_any (x.natAbs : Nat) (y.natAbs : Nat) (by omega) (by omega) w1
  rw [hgc] at c2
  have hg : ((Int.gcd x y : Nat) : Int) ≤ 536870912000 := by
    by_cases hx : x = 0
    · subst hx
      rw [Int.gcd_zero_left]
      omega
    · have := Int.gcd_le_natAbs_left y hx
      omega
  have c3 := fun w1 => divisor_any (Int.gcd x y : Nat) d (by omega) (by omega) w1
  have hr : (((Int.gcd (Int.gcd x y : Nat) d : Nat) : Int) == 1) = (gcd3 x y d == 1) := by
    unfold gcd3
    apply Bool.eq_iff_iff.2
    simp
    omega
  have f0 : decide (x < l) = false := decide_eq_false g0
  have f1 : decide (u < x) = false := decide_eq_false g1
  have f2 : decide (y < l) = false := decide_eq_false g2
  have f3 : decide (u < y) = false := decide_eq_false g3
  clear h1 h2 hv hin hb hdd g0 g1 g2 g3 hg hgc ax ay
  generalize ((Int.gcd (Int.gcd x y : Nat) d : Nat) : Int) = r at *
  generalize ((Int.gcd x y : Nat) : Int) = s at *
  generalize ((x.natAbs : Nat) : Int) = u1 at *
  generalize ((y.natAbs : Nat) : Int) = u2 at *
  generalize (gcd3 x y d == 1) = z at *
  go_enter Try.func69, Try.ntmps69
  go_wp2_with fail
  refine wp_region_kept (by repeat (first | exact Kp.refl _ _ | refine Kp.drew ?_)) (by assumption) (by kernel_rfl) ?_
  repeat (with_reducible refine wpQuiet_step (fun K hK => ?_); go_simp; first | ((with_reducible refine hK _ ?_); clear hK K) | (with_reducible apply Exists.intro; (with_reducible refine ⟨fun _ => ?_, hK _ ?_⟩); ((first | (go_at_call 94; with_reducible exact Calls.kept_same (a1 _)) | (go_at_call 94; with_reducible exact Calls.kept_same (a2 _)) | (go_at_call 108; with_reducible exact Calls.kept_of (c2 _)) | (go_at_call 108; with_reducible exact Calls.kept_of (c3 _)) | fail)); clear hK K))
  with_reducible refine wpQuiet_nil ?_
  rintro _ ⟨p, rfl⟩
  go_wp2
  go_ret
  exact ⟨by simp, ((nw_alloc _ _)).tr p.since⟩

theorem near_eq (x y d : Int) : nearP x y d = (validP x y d && withinV x y (w64 (2000 * d))) := by
  unfold nearP inPt
  cases hv : validP x y d
  · simp
  · have h : inPt x y d 4000 = true := by unfold validP at hv; simp at hv; exact hv.1
    unfold inPt at h
    simp at h
    simp [h.1]
set_option maxHeartbeats 1600000 in
theorem near_any (x y d : Int) (w : World) : Calls Try.prog 111 #[pV x y d] w fun e w' => e = .returned (.bool (nearP x y d)) ∧ Nw w w' := by
  have c1 := fun w1 => rvalidPoint_any x y d w1
  have c2 := fun w1 => rwithin_any x y (w64 (2000 * d)) w1
  have hw := i64_w (2000 * d)
  rw [near_eq]
  generalize withinV x y (w64 (2000 * d)) = b at *
  generalize validP x y d = a at *
  generalize w64 (2000 * d) = z at *
  have hb0 := Blk.new_at w 50 #[.int .i64 x, .int .i64 y, .int .i64 d] (n := w.heap.size) (by simp)
  have hk0 : ∀ p : KeptW (w.alloc (.cells #[.int .i64 x, .int .i64 y, .int .i64 d] 50)), Blk p.wd (w.heap.size) 50 #[.int .i64 x, .int .i64 y, .int .i64 d] := fun p => hb0.kept p
  have q0 := fun p => (hk0 p).cell 0
  have q1 := fun p => (hk0 p).cell 1
  have q2 := fun p => (hk0 p).cell 2
  skip
  clear hb0 hk0
  cases a
  · go_enter Try.func111, Try.ntmps111
    go_wp2_with (first | (go_at_call 69; ((with_reducible refine (Calls.kept_first (c1 _)).mono ?_); rintro e _ ⟨rfl, p, rfl⟩)) | (go_at_call 43; ((with_reducible refine (Calls.kept_of (c2 _)).mono ?_); rintro e _ ⟨rfl, p, rfl⟩)) | fail)
    go_ret
    exact ⟨by simp, ((nw_alloc _ _)).tr p.since⟩
  · go_enter Try.func111, Try.ntmps111
    go_wp2_with (first | (go_at_call 69; ((with_reducible refine (Calls.kept_first (c1 _)).mono ?_); rintro e _ ⟨rfl, p, rfl⟩)) | (go_at_call 43; ((with_reducible refine (Calls.kept_of (c2 _)).mono ?_); rintro e _ ⟨rfl, p, rfl⟩)) | fail)
    go_ret
    exact ⟨by simp, ((nw_alloc _ _)).tr p.since⟩

end Go.Proofs.Ytahamffngmdjfaa.W

namespace Go.Proofs.Ytahamffngmdjfaa.W
open Go.RowKit Go.Proofs.Ytahamffngmdjfaa.V Go.Proofs.Ytahamffngmdjfaa.G

theorem tdiv_near (a : Int) (g : Int) (h : -9223372036854775808 < a ∧ a ≤ 9223372036854775807) : IntKind.i64.wrap (a.tdiv g) = a.tdiv g ∧ wrap64 (a.tdiv g) = a.tdiv g := by
  have := Int.natAbs_tdiv_le_natAbs a g
  exact ⟨wrap_mid (by omega), by rw [w64_def, w64_id ⟨by omega, by omega⟩]⟩
theorem mid_gcd {x y M : Int} (hx : -M ≤ x ∧ x ≤ M) (hy : -M ≤ y ∧ y ≤ M) : ((Int.gcd x y : Nat) : Int) ≤ M := by
  by_cases hx0 : x = 0
  · subst hx0
    rw [Int.gcd_zero_left]
    omega
  · have := Int.gcd_le_natAbs_left y hx0
    omega
theorem abs_nat {x : Int} (h : -9223372036854775808 < x ∧ x ≤ 9223372036854775807) : absV x = ((x.natAbs : Nat) : Int) := by
  unfold absV
  split
  · omega
  · rw [w64_id ⟨by omega, by omega⟩]
    omega

set_option maxHeartbeats 1600000 in
theorem lowest_any (x y d : Int) (hx : -2305843009213693952 ≤ x ∧ x ≤ 2305843009213693952) (hy : -2305843009213693952 ≤ y ∧ y ≤ 2305843009213693952) (hdd : 0 ≤ d ∧ d ≤ 2305843009213693952) (hd : d ≠ 0) (w : World) : Calls Try.prog 142 #[.int .i64 x, .int .i64 y, .int .i64 d] w fun e w' => e = .returned (pV (lowV x y d).1 (lowV x y d).2.1 (lowV x y d).2.2) ∧ Nw w w' := by
  have c2 := fun w1 => gcd_any x y (by unfold Mid; omega) (by unfold Mid; omega) w1
  have hgg := mid_gcd hx hy
  have c3 := fun w1 => gcd_any (Int.gcd x y : Nat) d (by unfold Mid; omega) (by unfold Mid; omega) w1
  obtain ⟨g, hg, eg, e1, e2, e3⟩ := low_way (x := x) (y := y) hd
  obtain ⟨d1, f1⟩ := tdiv_near x g (by omega)
  obtain ⟨d2, f2⟩ := tdiv_near y g (by omega)
  obtain ⟨d3, f3⟩ := tdiv_near d g (by omega)
  have hgcd : ((Int.gcd (Int.gcd x y : Nat) d : Nat) : Int) = g := eg.symm
  have HV := Lib.hid (show pV (x.tdiv g) (y.tdiv g) (d.tdiv g) = pV (lowV x y d).1 (lowV x y d).2.1 (lowV x y d).2.2 by rw [eg]; rfl)
  obtain ⟨r1, h1⟩ : ∃ r, x.tdiv g = r := ⟨_, rfl⟩
  obtain ⟨r2, h2⟩ : ∃ r, y.tdiv g = r := ⟨_, rfl⟩
  obtain ⟨r3, h3⟩ : ∃ r, d.tdiv g = r := ⟨_, rfl⟩
  have H1 := Lib.hid h1
  rw [h1] at HV
  have H2 := Lib.hid h2
  rw [h2] at HV
  have H3 := Lib.hid h3
  rw [h3] at HV
  rw [← HV.out]
  have g0 : (g == 0) = false := by simp; omega
  have g1 : g ≠ 0 := by omega
  rw [hgcd] at c3
  clear e1 e2 e3 eg hgcd hx hy hd hdd hgg h1 h2 h3
  generalize ((Int.gcd x y : Nat) : Int) = s at *
  go_enter Try.func142, Try.ntmps142
  go_wp2_with (first | (go_at_call 107; ((with_reducible refine (Calls.kept_first (c2 _)).mono ?_); rintro e _ ⟨rfl, p, rfl⟩)) | (go_at_call 107; ((with_reducible refine (Calls.kept_of (c3 _)).mono ?_); rintro e _ ⟨rfl, p, rfl⟩)) | fail)
  have HRB := Lib.hid (show Blk p.wd w.heap.size 50 #[.int .i64 0, .int .i64 0, .int .i64 0] from (Blk.new_at w 50 #[.int .i64 0, .int .i64 0, .int .i64 0] (n := w.heap.size) rfl).kept p)
  obtain ⟨s0, s1, s2, y0, y1, y2⟩ := HRB.out.three
  go_wp2_with fail
  go_region
  go_wp2_with fail
  generalize hw9 : World.setCell _ _ _ = w9
  have h9 : Blk w9 w.heap.size 50 #[.int .i64 r1, .int .i64 r2, .int .i64 r3] := by rw [← hw9, H1.out, H2.out, H3.out]; exact ((show Blk _ _ _ _ from by repeat (first | exact HRB.out | refine Blk.drew ?_)).set_ 0 _).set_ 1 _ |>.set_ 2 _
  have hn9 : Nw w w9 := by rw [← hw9]; exact (((show Nw w _ from by repeat (first | exact (nw_alloc _ _).tr p.since | refine Kp.drew ?_)).new (Nat.le_refl _) _ _).new (Nat.le_refl _) _ _).new (Nat.le_refl _) _ _
  obtain ⟨x0, x1, x2, _, _, _⟩ := h9.three
  exact bodyPost_ret (v := pV r1 r2 r3) (by simp [results, Try.results142, go_sem, x0, x1, x2]) rfl ⟨by rw [HV.out], by first | exact hn9 | exact hn9.drew⟩

theorem rlow_pos (x y d : Int) (hx : -2305843009213693952 ≤ x ∧ x ≤ 2305843009213693952) (hy : -2305843009213693952 ≤ y ∧ y ≤ 2305843009213693952) (hdd : 0 ≤ d ∧ d ≤ 2305843009213693952) :
    (∀ w1, Calls Try.prog 94 #[.int .i64 x] w1 fun e w' => e = .returned (.int .i64 (x.natAbs : Nat)) ∧ w1 = w') ∧ (∀ w1, Calls Try.prog 94 #[.int .i64 y] w1 fun e w' => e = .returned (.int .i64 (y.natAbs : Nat)) ∧ w1 = w') ∧
    (∀ w1, Calls Try.prog 108 #[.int .i64 (x.natAbs : Nat), .int .i64 (y.natAbs : Nat)] w1 fun e w' => e = .returned (.int .i64 (Int.gcd x y : Nat)) ∧ Nw w1 w') ∧ (∀ w1, Calls Try.prog 108 #[.int .i64 (Int.gcd x y : Nat), .int .i64 d] w1 fun e w' => e = .returned (.int .i64 (gcd3 x y d : Nat)) ∧ Nw w1 w') := by
  have a1 := fun w1 => rabs_any x w1
  have a2 := fun w1 => rabs_any y w1
  rw [abs_nat (by omega)] at a1
  rw [abs_nat (by omega)] at a2
  have hgc : Int.gcd (x.natAbs : Nat) (y.natAbs : Nat) = Int.gcd x y := by show Nat.gcd (x.natAbs : Int).natAbs (y.natAbs : Int).natAbs = _; rw [Int.natAbs_natCast, Int.natAbs_natCast]; rfl
  have c2 := fun w1 => divisor_any (x.natAbs : Nat) (y.natAbs : Nat) (by omega) (by omega) w1
  rw [hgc] at c2
  have hgg := mid_gcd hx hy
  have c3 := fun w1 => divisor_any (Int.gcd x y : Nat) d (by omega) (by omega) w1
  exact ⟨a1, a2, c2, c3⟩

set_option maxHeartbeats 1600000 in
theorem rlowest_any (x y d : Int) (hx : -2305843009213693952 ≤ x ∧ x ≤ 2305843009213693952) (hy : -2305843009213693952 ≤ y ∧ y ≤ 2305843009213693952) (hdd : 0 ≤ d ∧ d ≤ 2305843009213693952) (hd : d ≠ 0) (w : World) : Calls Try.prog 104 #[.int .i64 x, .int .i64 y, .int .i64 d] w fun e w' => e = .returned (pV (lowV x y d).1 (lowV x y d).2.1 (lowV x y d).2.2) ∧ Nw w w' := by
  obtain ⟨a1, a2, c2, c3⟩ := rlow_pos x y d hx hy hdd
  obtain ⟨g, hg, eg, e1, e2, e3⟩ := low_way (x := x) (y := y) hd
  obtain ⟨d1, f1⟩ := tdiv_near x g (by omega)
  obtain ⟨d2, f2⟩ := tdiv_near y g (by omega)
  obtain ⟨d3, f3⟩ := tdiv_near d g (by omega)
  have hgcd : ((Int.gcd (Int.gcd x y : Nat) d : Nat) : Int) = g := eg.symm
  have HV := Lib.hid (show pV (x.tdiv g) (y.tdiv g) (d.tdiv g) = pV (lowV x y d).1 (lowV x y d).2.1 (lowV x y d).2.2 by rw [eg]; rfl)
  obtain ⟨r1, h1⟩ : ∃ r, x.tdiv g = r := ⟨_, rfl⟩
  obtain ⟨r2, h2⟩ : ∃ r, y.tdiv g = r := ⟨_, rfl⟩
  obtain ⟨r3, h3⟩ : ∃ r, d.tdiv g = r := ⟨_, rfl⟩
  have H1 := Lib.hid h1
  rw [h1] at HV
  have H2 := Lib.hid h2
  rw [h2] at HV
  have H3 := Lib.hid h3
  rw [h3] at HV
  rw [← HV.out]
  have g0 : (g == 0) = false := by simp; omega
  have g1 : g ≠ 0 := by omega
  rw [show ((gcd3 x y d : Nat) : Int) = g from eg.symm] at c3
  clear e1 e2 e3 eg hgcd h1 h2 h3
  generalize ((Int.gcd x y : Nat) : Int) = s at *
  generalize ((x.natAbs : Nat) : Int) = u1 at *
  generalize ((y.natAbs : Nat) : Int) = u2 at *
  have n0 : decide (d < 0) = false := decide_eq_false (by omega)
  clear hx hy hd hdd
  go_enter Try.func104, Try.ntmps104
  go_wp2_with (first | (go_at_call 94; ((with_reducible refine (a1 _).mono ?_); rintro e w1 ⟨rfl, rfl⟩)) | (go_at_call 94; ((with_reducible refine (a2 _).mono ?_); rintro e w1 ⟨rfl, rfl⟩)) | (go_at_call 108; ((with_reducible refine (Calls.kept_first (c2 _)).mono ?_); rintro e _ ⟨rfl, p, rfl⟩)) | (go_at_call 108; ((with_reducible refine (Calls.kept_of (c3 _)).mono ?_); rintro e _ ⟨rfl, p, rfl⟩)) | fail)
  have HRB := Lib.hid (show Blk p.wd w.heap.size 50 #[.int .i64 0, .int .i64 0, .int .i64 0] from (Blk.new_at w 50 #[.int .i64 0, .int .i64 0, .int .i64 0] (n := w.heap.size) rfl).kept p)
  obtain ⟨s0, s1, s2, y0, y1, y2⟩ := HRB.out.three
  go_wp2_with fail
  go_region
  go_wp2_with fail
  generalize hw9 : World.setCell _ _ _ = w9
  have h9 : Blk w9 w.heap.size 50 #[.int .i64 r1, .int .i64 r2, .int .i64 r3] := by rw [← hw9, H1.out, H2.out, H3.out]; exact ((show Blk _ _ _ _ from by repeat (first | exact HRB.out | refine Blk.drew ?_)).set_ 0 _).set_ 1 _ |>.set_ 2 _
  have hn9 : Nw w w9 := by rw [← hw9]; exact (((show Nw w _ from by repeat (first | exact (nw_alloc _ _).tr p.since | refine Kp.drew ?_)).new (Nat.le_refl _) _ _).new (Nat.le_refl _) _ _).new (Nat.le_refl _) _ _
  obtain ⟨x0, x1, x2, _, _, _⟩ := h9.three
  exact bodyPost_ret (v := pV r1 r2 r3) (by simp [results, Try.results104, go_sem, x0, x1, x2]) rfl ⟨by rw [HV.out], by first | exact hn9 | exact hn9.drew⟩

set_option maxHeartbeats 1600000 in
theorem rlowest_neg (x y d : Int) (hx : -2305843009213693952 ≤ x ∧ x ≤ 2305843009213693952) (hy : -2305843009213693952 ≤ y ∧ y ≤ 2305843009213693952) (hdd : 0 ≤ d ∧ d ≤ 2305843009213693952) (hd : d ≠ 0) (w : World) : Calls Try.prog 104 #[.int .i64 (-x), .int .i64 (-y), .int .i64 (-d)] w fun e w' => e = .returned (pV (lowV x y d).1 (lowV x y d).2.1 (lowV x y d).2.2) ∧ Nw w w' := by
  obtain ⟨a1, a2, c2, c3⟩ := rlow_pos x y d hx hy hdd
  obtain ⟨g, hg, eg, e1, e2, e3⟩ := low_way (x := x) (y := y) hd
  obtain ⟨d1, f1⟩ := tdiv_near x g (by omega)
  obtain ⟨d2, f2⟩ := tdiv_near y g (by omega)
  obtain ⟨d3, f3⟩ := tdiv_near d g (by omega)
  have hgcd : ((Int.gcd (Int.gcd x y : Nat) d : Nat) : Int) = g := eg.symm
  have HV := Lib.hid (show pV (x.tdiv g) (y.tdiv g) (d.tdiv g) = pV (lowV x y d).1 (lowV x y d).2.1 (lowV x y d).2.2 by rw [eg]; rfl)
  obtain ⟨r1, h1⟩ : ∃ r, x.tdiv g = r := ⟨_, rfl⟩
  obtain ⟨r2, h2⟩ : ∃ r, y.tdiv g = r := ⟨_, rfl⟩
  obtain ⟨r3, h3⟩ : ∃ r, d.tdiv g = r := ⟨_, rfl⟩
  have H1 := Lib.hid h1
  rw [h1] at HV
  have H2 := Lib.hid h2
  rw [h2] at HV
  have H3 := Lib.hid h3
  rw [h3] at HV
  rw [← HV.out]
  have g0 : (g == 0) = false := by simp; omega
  have g1 : g ≠ 0 := by omega
  rw [show ((gcd3 x y d : Nat) : Int) = g from eg.symm] at c3
  clear e1 e2 e3 eg hgcd h1 h2 h3
  generalize ((Int.gcd x y : Nat) : Int) = s at *
  generalize ((x.natAbs : Nat) : Int) = u1 at *
  generalize ((y.natAbs : Nat) : Int) = u2 at *
  have n0 : decide (-d < 0) = true := decide_eq_true (by omega)
  have m1 : wrap64 (- -x) = x := by rw [w64_def, w64_id ⟨by omega, by omega⟩]; omega
  have m2 : wrap64 (- -y) = y := by rw [w64_def, w64_id ⟨by omega, by omega⟩]; omega
  have m3 : wrap64 (- -d) = d := by rw [w64_def, w64_id ⟨by omega, by omega⟩]; omega
  obtain ⟨x', hx'⟩ : ∃ x', -x = x' := ⟨_, rfl⟩
  obtain ⟨y', hy'⟩ : ∃ y', -y = y' := ⟨_, rfl⟩
  obtain ⟨d', hd'⟩ : ∃ d', -d = d' := ⟨_, rfl⟩
  rw [hx'] at m1 ⊢
  rw [hy'] at m2 ⊢
  rw [hd'] at m3 n0 ⊢
  clear hx hy hd hdd hx' hy' hd'
  go_enter Try.func104, Try.ntmps104
  go_wp2_with (first | (go_at_call 94; ((with_reducible refine (a1 _).mono ?_); rintro e w1 ⟨rfl, rfl⟩)) | (go_at_call 94; ((with_reducible refine (a2 _).mono ?_); rintro e w1 ⟨rfl, rfl⟩)) | (go_at_call 108; ((with_reducible refine (Calls.kept_first (c2 _)).mono ?_); rintro e _ ⟨rfl, p, rfl⟩)) | (go_at_call 108; ((with_reducible refine (Calls.kept_of (c3 _)).mono ?_); rintro e _ ⟨rfl, p, rfl⟩)) | fail)
  have HRB := Lib.hid (show Blk p.wd w.heap.size 50 #[.int .i64 0, .int .i64 0, .int .i64 0] from (Blk.new_at w 50 #[.int .i64 0, .int .i64 0, .int .i64 0] (n := w.heap.size) rfl).kept p)
  obtain ⟨s0, s1, s2, y0, y1, y2⟩ := HRB.out.three
  go_wp2_with fail
  go_region
  go_wp2_with fail
  generalize hw9 : World.setCell _ _ _ = w9
  have h9 : Blk w9 w.heap.size 50 #[.int .i64 r1, .int .i64 r2, .int .i64 r3] := by rw [← hw9, H1.out, H2.out, H3.out]; exact ((show Blk _ _ _ _ from by repeat (first | exact HRB.out | refine Blk.drew ?_)).set_ 0 _).set_ 1 _ |>.set_ 2 _
  have hn9 : Nw w w9 := by rw [← hw9]; exact (((show Nw w _ from by repeat (first | exact (nw_alloc _ _).tr p.since | refine Kp.drew ?_)).new (Nat.le_refl _) _ _).new (Nat.le_refl _) _ _).new (Nat.le_refl _) _ _
  obtain ⟨x0, x1, x2, _, _, _⟩ := h9.three
  exact bodyPost_ret (v := pV r1 r2 r3) (by simp [results, Try.results104, go_sem, x0, x1, x2]) rfl ⟨by rw [HV.out], by first | exact hn9 | exact hn9.drew⟩

end Go.Proofs.Ytahamffngmdjfaa.W
