/-
  math/bits.Div64, Rem64: the quotient and the remainder of two words by one. Condition: the high word is less than the divisor.
-/
import Derived.Test.YthefkomalakfeaaQM
import Derived.Shelf.Small.Bits
import Derived.Test.YthefkomalakfeaaQDp
import Derived.Deep.CutRange
namespace Go.Proofs.Ythefkomalakfeaa.W
open Go.RowKit Go.Proofs.Ythefkomalakfeaa.Q

theorem leadingZeros_any (y : Nat) (hy : U64 y) (w : World) : Calls Try.prog 81 #[.int .u64 y] w fun e w' => e = .returned (.int .i64 (64 - Lib.bitLen y)) ∧ w = w' :=
  (Any.bits_LeadingZeros64 Try.lays134 (y : Int) w (by omega) (by unfold U64 at hy; omega)).mono fun _ _ ⟨h, h'⟩ => ⟨by rw [h]; simp, h'.symm⟩

theorem maskU (a : Nat) (ha : a < 18446744073709551616) : bits .and .u64 (a : Int) 4294967295 = ((a % 4294967296 : Nat) : Int) := by
  have h := bits_and_u64_nat a 4294967295 ha (by omega)
  have e : a &&& 4294967295 = a % 4294967296 := Nat.and_two_pow_sub_one_eq_mod a 32
  rw [e] at h
  exact h
theorem halfU (a : Nat) : (a : Int) / 4294967296 = ((a / 4294967296 : Nat) : Int) := by omega
theorem mulU (a b : Nat) (h : a * b < 18446744073709551616) : IntKind.u64.wrap ((a : Int) * b) = ((a * b : Nat) : Int) := by rw [← Int.natCast_mul]; exact wrapU _ h

set_option maxRecDepth 100000 in
set_option maxHeartbeats 3200000 in
theorem div64_high (hi lo y s : Nat) (hlo : lo < 18446744073709551616) (hy : y < 18446744073709551616) (hlt : hi < y) (h0 : hi ≠ 0) (hs2 : s ≤ 63) (hlz : s + Lib.bitLen y = 64) (w : World) :
    Calls Try.prog 72 #[.int .u64 hi, .int .u64 lo, .int .u64 y] w fun e w' => e = .returned (.tuple #[.int .u64 ((hi * 18446744073709551616 + lo) / y : Nat), .int .u64 ((hi * 18446744073709551616 + lo) % y : Nat)]) ∧ ∃ k, w' = w.drewN k := by
  obtain ⟨Y, hY⟩ : ∃ n, y * 2 ^ s = n := ⟨_, rfl⟩
  obtain ⟨H, hH⟩ : ∃ n, hi * 2 ^ s + lo / 2 ^ (64 - s) = n := ⟨_, rfl⟩
  obtain ⟨L, hL⟩ : ∃ n, lo * 2 ^ s % 18446744073709551616 = n := ⟨_, rfl⟩
  obtain ⟨f1, f2, f3, f4, f5⟩ := shift_words hi lo y s hlo hy hlt hlz hs2
  rw [hY] at f1 f2 f3
  rw [hH] at f3 f4 f5
  rw [hL] at f4
  have hL2 : L < 18446744073709551616 := by omega
  have hp : 0 < 2 ^ s := Nat.pow_pos (by omega)
  have r1 : (hi * 18446744073709551616 + lo) / y = (H * 18446744073709551616 + L) / Y := by rw [← f4, ← hY, Nat.mul_div_mul_right _ _ hp]
  have r2 : (hi * 18446744073709551616 + lo) % y = (H * 18446744073709551616 + L) % Y / 2 ^ s := by rw [← f4, ← hY, Nat.mul_mod_mul_right, Nat.mul_div_cancel _ hp]
  obtain ⟨t1, t2⟩ := digits_two H L Y (by omega)
  have lz := fun w1 => leadingZeros_any y hy w1
  rw [show (64 : Int) - Lib.bitLen y = s by omega] at lz
  have hy0 : ((y : Int) == 0) = false := by simp; omega
  have hle : decide (y ≤ hi) = false := decide_eq_false (by omega)
  have hi0 : ((hi : Int) == 0) = false := by simp; omega
  have es : IntKind.u64.wrap (s : Int) = s := wrapU s (by omega)
  have c1 : (y : Int) * 2 ^ s = ((y * 2 ^ s : Nat) : Int) := by push_cast; rfl
  have eY : IntKind.u64.wrap ((y : Int) * 2 ^ s) = Y := by rw [c1, hY]; exact wrapU _ f2
  have c2 : (lo : Int) * 2 ^ s = ((lo * 2 ^ s : Nat) : Int) := by push_cast; rfl
  have eL : IntKind.u64.wrap ((lo : Int) * 2 ^ s) = L := by rw [c2, ← hL, IntKind.wrap_u64]; omega
  have eY1 := halfU Y
  have eY0 := maskU Y f2
  have eL1 := halfU L
  have eL0 := maskU L hL2
  obtain ⟨y1, hy1⟩ : ∃ n, Y / 4294967296 = n := ⟨_, rfl⟩
  obtain ⟨y0, hy00⟩ : ∃ n, Y % 4294967296 = n := ⟨_, rfl⟩
  obtain ⟨v1, hv1⟩ : ∃ n, L / 4294967296 = n := ⟨_, rfl⟩
  obtain ⟨v0, hv0⟩ : ∃ n, L % 4294967296 = n := ⟨_, rfl⟩
  have hYs : Y = y1 * 4294967296 + y0 := by omega
  rw [hy1] at eY1
  rw [hy00] at eY0
  rw [hv1] at eL1 t1 t2
  rw [hv0] at eL0 t1 t2
  have b1 : 2147483648 ≤ y1 := by omega
  have b2 : y1 < 4294967296 := by omega
  have b3 : y0 < 4294967296 := by omega
  have b4 : v1 < 4294967296 := by omega
  have b5 : v0 < 4294967296 := by omega
  have e1 := est_start (u := H) (v := v1) (y1 := y1) (y0 := y0) (by omega) b1 b2 b3 b4
  rw [r1, r2, t1, t2]
  obtain ⟨Q1, hQ1⟩ : ∃ n, (H * 4294967296 + v1) / Y = n := ⟨_, rfl⟩
  obtain ⟨U, hU⟩ : ∃ n, (H * 4294967296 + v1) % Y = n := ⟨_, rfl⟩
  have hU2 : U < Y := by rw [← hU]; exact Nat.mod_lt _ (by omega)
  have w1 : IntKind.u64.wrap (IntKind.u64.wrap (IntKind.u64.wrap ((H : Int) * 4294967296) + v1) - IntKind.u64.wrap ((Q1 : Int) * Y)) = U := by
    rw [← hU]; exact rest_word H v1 Y Q1 hQ1.symm f2 (by omega)
  rw [hQ1, hU]
  obtain ⟨Q2, hQ2⟩ : ∃ n, (U * 4294967296 + v0) / Y = n := ⟨_, rfl⟩
  obtain ⟨V, hV⟩ : ∃ n, (U * 4294967296 + v0) % Y = n := ⟨_, rfl⟩
  have w2 : IntKind.u64.wrap (IntKind.u64.wrap (IntKind.u64.wrap ((U : Int) * 4294967296) + v0) - IntKind.u64.wrap ((Q2 : Int) * Y)) = V := by
    rw [← hV]; exact rest_word U v0 Y Q2 hQ2.symm f2 (by omega)
  rw [hQ2, hV]
  have dq1 : Q1 < 4294967296 := by rw [← hQ1]; exact digit_lt f3 b4
  have dq2 : Q2 < 4294967296 := by rw [← hQ2]; exact digit_lt hU2 b5
  have fq : IntKind.u64.wrap (IntKind.u64.wrap ((Q1 : Int) * 4294967296) + Q2) = ((Q1 * 4294967296 + Q2 : Nat) : Int) := by simp only [IntKind.wrap_u64]; omega
  have sh : (V : Int) / 2 ^ s = ((V / 2 ^ s : Nat) : Int) := by push_cast; rfl
  obtain ⟨QQ, hQQ⟩ : ∃ n, Q1 * 4294967296 + Q2 = n := ⟨_, rfl⟩
  obtain ⟨VV, hVV⟩ : ∃ n, V / 2 ^ s = n := ⟨_, rfl⟩
  rw [hQQ, hVV]
  rw [hQQ] at fq
  rw [hVV] at sh
  clear hQQ hVV
  have EW2 := Lib.hid w2
  have EF := Lib.hid fq
  have ES := Lib.hid sh
  have EQ2 := Lib.hid hQ2
  clear w2 fq sh hQ2 hV dq1 dq2
  have q1 := divU' H y1 (by omega)
  have m1 := mulU (H / y1) y1 (by have := Nat.div_mul_le_self H y1; omega)
  have s1 : IntKind.u64.wrap ((H : Int) - ((H / y1 * y1 : Nat) : Int)) = ((H % y1 : Nat) : Int) := by
    have := Nat.div_add_mod' H y1
    rw [IntKind.wrap_u64]
    generalize H / y1 * y1 = p at *
    generalize H % y1 = r at *
    omega
  generalize H / y1 * y1 = p1 at *
  generalize H / y1 = Qa at *
  generalize H % y1 = Ra at *
  have hz : ¬ y1 = 0 := by omega
  have E1 := Lib.hid e1
  have EW := Lib.hid w1
  have EQ := Lib.hid hQ1
  have EU := Lib.hid hU2
  have B := Lib.hid (And.intro hYs (And.intro b1 (And.intro b2 (And.intro b3 (And.intro b4 (And.intro b5 (And.intro f2 f3)))))))
  clear e1 w1 hQ1 hU2 hYs b1 b2 b3 b4 b5 f1 f2 f3 f4 hlo hy hlt h0 hlz hY hH hL hL2 hp r1 r2 t1 t2 c1 c2 hy1 hy00 hv1 hv0 hU
  go_enter Try.func72, Try.ntmps72
  go_upto_region 16 with (go_at_call 81; with_reducible refine (lz _).mono ?_; rintro e w1 ⟨rfl, rfl⟩)
  go_cut [16] from 62 to 66 (fun z wc => z = .int .u64 Ra ∧ w = wc)
  case first =>
    go_wp2
    go_meet
    case rel => exact ⟨rfl, rfl⟩
  case rest =>
    obtain ⟨rfl, rfl⟩ := hcut
    have HA := Lib.hid (And.intro f5 (And.intro q1 (And.intro m1 s1)))
    clear f5 q1 m1 s1 lz eY eL eY1 eY0 eL1 eL0 hy0 hle hi0
    go_step
    go_step
    go_cut [15, 16] from 67 to 85 (fun x z wc => x = .int .u64 Q1 ∧ w = wc)
    case first =>
      go_wp2
      go_loopw [15, 16] (fun x z wr => ∃ q r : Nat, x = .int .u64 q ∧ z = .int .u64 r ∧ Est H v1 y1 y0 q r ∧ w = wr) (fun x _ _ => (intOf x).toNat)
      case atStart => exact ⟨Qa, Ra, rfl, rfl, E1.out, rfl⟩
      case round =>
        obtain ⟨q, r, rfl, rfl, he, rfl⟩ := hrel
        by_cases hq : q < 4294967296
        · have g1 : decide ((q : Int) ≥ 4294967296) = false := decide_eq_false (by omega)
          have g1' : decide (4294967296 ≤ q) = false := decide_eq_false (by omega)
          have hT2 := Nat.mul_le_mul (show q ≤ 4294967295 by omega) (show y0 ≤ 4294967295 by have := B.out.2.2.2.1; omega)
          have mt := mulU q y0 (by omega)
          have mr : IntKind.u64.wrap (4294967296 * (r : Int)) = ((4294967296 * r : Nat) : Int) := by rw [IntKind.wrap_u64]; have := he.lt; omega
          have ma : IntKind.u64.wrap (((4294967296 * r : Nat) : Int) + v1) = ((4294967296 * r + v1 : Nat) : Int) := by rw [← Int.natCast_add]; exact wrapU _ (by have := he.lt; have := B.out.2.2.2.2.1; omega)
          obtain ⟨T, hT⟩ : ∃ n, q * y0 = n := ⟨_, rfl⟩
          obtain ⟨R, hR⟩ : ∃ n, 4294967296 * r = n := ⟨_, rfl⟩
          obtain ⟨M, hM⟩ : ∃ n, 4294967296 * r + v1 = n := ⟨_, rfl⟩
          rw [hT] at mt
          rw [hR] at mr
          rw [hM, hR] at ma
          clear hT2
          by_cases hs : M < T
          · have g2 : decide ((T : Int) > M) = true := decide_eq_true (by omega)
            have g2' : decide (M < T) = true := decide_eq_true hs
            have hn := est_next he (by have := B.out.1; have := B.out.2.2.2.2.2.2.2; omega) B.out.2.2.2.2.1 B.out.2.2.2.1 B.out.2.1 (.inr (by rw [hT, hM]; exact hs))
            obtain ⟨k, hk⟩ : ∃ k, q - 1 = k := ⟨_, rfl⟩
            rw [hk] at hn
            have wk : IntKind.u64.wrap ((q : Int) - 1) = k := by rw [show (q : Int) - 1 = k by have := hn.1; omega]; exact wrapU k (by have := he.le; omega)
            have HL := Lib.hid (show k < q by have := hn.1; omega)
            clear hk
            have wr1 : IntKind.u64.wrap ((r : Int) + y1) = ((r + y1 : Nat) : Int) := by rw [← Int.natCast_add]; exact wrapU _ (by have := he.lt; have := B.out.2.2.1; omega)
            obtain ⟨r', hr'⟩ : ∃ n, r + y1 = n := ⟨_, rfl⟩
            rw [hr'] at wr1 hn
            by_cases hb : r' < 4294967296
            · have g3 : decide ((r' : Int) ≥ 4294967296) = false := decide_eq_false (by omega)
              have g3' : decide (4294967296 ≤ r') = false := decide_eq_false (by omega)
              have hE := Lib.hid (hn.2.1 hb)
              clear hn he hr' hq
              go_wp2
              go_roundw
              case rel => exact ⟨k, r', rfl, rfl, hE.out, trivial⟩
              case measure => have := HL.out; simp [intOf]; omega
            · have g3 : decide ((r' : Int) ≥ 4294967296) = true := decide_eq_true (by omega)
              have g3' : decide (4294967296 ≤ r') = true := decide_eq_true (by omega)
              have hE := Lib.hid (hn.2.2 hb)
              clear hn he hr' hq
              go_wp2
              go_meet
              case rel => exact ⟨by rw [show k = Q1 from hE.out.trans (by rw [← B.out.1]; exact EQ.out)], rfl⟩
          · have g2 : decide ((T : Int) > M) = false := decide_eq_false (by omega)
            have g2' : decide (M < T) = false := decide_eq_false hs
            have hE := Lib.hid (est_done he B.out.2.1 (by rw [hT, hM]; exact hs))
            clear he hT hR hM
            go_wp2
            go_meet
            case rel => exact ⟨by rw [show q = Q1 from hE.out.trans (by rw [← B.out.1]; exact EQ.out)], rfl⟩
        · have g1 : decide ((q : Int) ≥ 4294967296) = true := decide_eq_true (by omega)
          have g1' : decide (4294967296 ≤ q) = true := decide_eq_true (by omega)
          have hn := est_next he (by have := B.out.1; have := B.out.2.2.2.2.2.2.2; omega) B.out.2.2.2.2.1 B.out.2.2.2.1 B.out.2.1 (.inl hq)
          obtain ⟨k, hk⟩ : ∃ k, q - 1 = k := ⟨_, rfl⟩
          rw [hk] at hn
          have wk : IntKind.u64.wrap ((q : Int) - 1) = k := by rw [show (q : Int) - 1 = k by have := hn.1; omega]; exact wrapU k (by have := he.le; omega)
          have HL := Lib.hid (show k < q by have := hn.1; omega)
          clear hk
          have wr1 : IntKind.u64.wrap ((r : Int) + y1) = ((r + y1 : Nat) : Int) := by rw [← Int.natCast_add]; exact wrapU _ (by have := he.lt; have := B.out.2.2.1; omega)
          obtain ⟨r', hr'⟩ : ∃ n, r + y1 = n := ⟨_, rfl⟩
          rw [hr'] at wr1 hn
          by_cases hb : r' < 4294967296
          · have g3 : decide ((r' : Int) ≥ 4294967296) = false := decide_eq_false (by omega)
            have g3' : decide (4294967296 ≤ r') = false := decide_eq_false (by omega)
            have hE := Lib.hid (hn.2.1 hb)
            clear hn he hr' hq
            go_wp2
            go_roundw
            case rel => exact ⟨k, r', rfl, rfl, hE.out, trivial⟩
            case measure => have := HL.out; simp [intOf]; omega
          · have g3 : decide ((r' : Int) ≥ 4294967296) = true := decide_eq_true (by omega)
            have g3' : decide (4294967296 ≤ r') = true := decide_eq_true (by omega)
            have hE := Lib.hid (hn.2.2 hb)
            clear hn he hr' hq
            go_wp2
            go_meet
            case rel => exact ⟨by rw [show k = Q1 from hE.out.trans (by rw [← B.out.1]; exact EQ.out)], rfl⟩
    case rest =>
      obtain ⟨rfl, rfl⟩ := hcut
      have w1 := EW.out
      have q2 := divU' U y1 (by have := EU.out; have := B.out.2.2.2.2.2.2.1; omega)
      have m2 := mulU (U / y1) y1 (by have := Nat.div_mul_le_self U y1; have := EU.out; have := B.out.2.2.2.2.2.2.1; omega)
      have s2 : IntKind.u64.wrap ((U : Int) - ((U / y1 * y1 : Nat) : Int)) = ((U % y1 : Nat) : Int) := by
        have := Nat.div_add_mod' U y1
        have := EU.out
        have := B.out.2.2.2.2.2.2.1
        rw [IntKind.wrap_u64]
        generalize U / y1 * y1 = p at *
        generalize U % y1 = r at *
        omega
      have E2 := Lib.hid (est_start (u := U) (v := v0) (y1 := y1) (y0 := y0) (by have := EU.out; have := B.out.1; omega) B.out.2.1 B.out.2.2.1 B.out.2.2.2.1 B.out.2.2.2.2.2.1)
      generalize U / y1 * y1 = p2 at *
      generalize U / y1 = Qb at *
      generalize U % y1 = Rb at *
      go_upto_region 23 with fail
      go_cut [16] from 97 to 101 (fun z wc => z = .int .u64 Rb ∧ w = wc)
      case first =>
        go_wp2
        go_meet
        case rel => exact ⟨rfl, rfl⟩
      case rest =>
        obtain ⟨rfl, rfl⟩ := hcut
        have HA2 := Lib.hid (And.intro w1 (And.intro q2 (And.intro m2 s2)))
        clear w1 q2 m2 s2
        go_step
        go_step
        go_cut [18, 16] from 102 to 120 (fun x z wc => x = .int .u64 Q2 ∧ w = wc)
        case first =>
          go_wp2
          go_loopw [18, 16] (fun x z wr => ∃ q r : Nat, x = .int .u64 q ∧ z = .int .u64 r ∧ Est U v0 y1 y0 q r ∧ w = wr) (fun x _ _ => (intOf x).toNat)
          case atStart => exact ⟨Qb, Rb, rfl, rfl, E2.out, rfl⟩
          case round =>
            obtain ⟨q, r, rfl, rfl, he, rfl⟩ := hrel
            by_cases hq : q < 4294967296
            · have g1 : decide ((q : Int) ≥ 4294967296) = false := decide_eq_false (by omega)
              have g1' : decide (4294967296 ≤ q) = false := decide_eq_false (by omega)
              have hT2 := Nat.mul_le_mul (show q ≤ 4294967295 by omega) (show y0 ≤ 4294967295 by have := B.out.2.2.2.1; omega)
              have mt := mulU q y0 (by omega)
              have mr : IntKind.u64.wrap (4294967296 * (r : Int)) = ((4294967296 * r : Nat) : Int) := by rw [IntKind.wrap_u64]; have := he.lt; omega
              have ma : IntKind.u64.wrap (((4294967296 * r : Nat) : Int) + v0) = ((4294967296 * r + v0 : Nat) : Int) := by rw [← Int.natCast_add]; exact wrapU _ (by have := he.lt; have := B.out.2.2.2.2.2.1; omega)
              obtain ⟨T, hT⟩ : ∃ n, q * y0 = n := ⟨_, rfl⟩
              obtain ⟨R, hR⟩ : ∃ n, 4294967296 * r = n := ⟨_, rfl⟩
              obtain ⟨M, hM⟩ : ∃ n, 4294967296 * r + v0 = n := ⟨_, rfl⟩
              rw [hT] at mt
              rw [hR] at mr
              rw [hM, hR] at ma
              clear hT2
              by_cases hs : M < T
              · have g2 : decide ((T : Int) > M) = true := decide_eq_true (by omega)
                have g2' : decide (M < T) = true := decide_eq_true hs
                have hn := est_next he (by have := EU.out; have := B.out.1; omega) B.out.2.2.2.2.2.1 B.out.2.2.2.1 B.out.2.1 (.inr (by rw [hT, hM]; exact hs))
                obtain ⟨k, hk⟩ : ∃ k, q - 1 = k := ⟨_, rfl⟩
                rw [hk] at hn
                have wk : IntKind.u64.wrap ((q : Int) - 1) = k := by rw [show (q : Int) - 1 = k by have := hn.1; omega]; exact wrapU k (by have := he.le; omega)
                have HL := Lib.hid (show k < q by have := hn.1; omega)
                clear hk
                have wr1 : IntKind.u64.wrap ((r : Int) + y1) = ((r + y1 : Nat) : Int) := by rw [← Int.natCast_add]; exact wrapU _ (by have := he.lt; have := B.out.2.2.1; omega)
                obtain ⟨r', hr'⟩ : ∃ n, r + y1 = n := ⟨_, rfl⟩
                rw [hr'] at wr1 hn
                by_cases hb : r' < 4294967296
                · have g3 : decide ((r' : Int) ≥ 4294967296) = false := decide_eq_false (by omega)
                  have g3' : decide (4294967296 ≤ r') = false := decide_eq_false (by omega)
                  have hE := Lib.hid (hn.2.1 hb)
                  clear hn he hr' hq
                  go_wp2
                  go_roundw
                  case rel => exact ⟨k, r', rfl, rfl, hE.out, trivial⟩
                  case measure => have := HL.out; simp [intOf]; omega
                · have g3 : decide ((r' : Int) ≥ 4294967296) = true := decide_eq_true (by omega)
                  have g3' : decide (4294967296 ≤ r') = true := decide_eq_true (by omega)
                  have hE := Lib.hid (hn.2.2 hb)
                  clear hn he hr' hq
                  go_wp2
                  go_meet
                  case rel => exact ⟨by rw [show k = Q2 from hE.out.trans (by rw [← B.out.1]; exact EQ2.out)], rfl⟩
              · have g2 : decide ((T : Int) > M) = false := decide_eq_false (by omega)
                have g2' : decide (M < T) = false := decide_eq_false hs
                have hE := Lib.hid (est_done he B.out.2.1 (by rw [hT, hM]; exact hs))
                clear he hT hR hM
                go_wp2
                go_meet
                case rel => exact ⟨by rw [show q = Q2 from hE.out.trans (by rw [← B.out.1]; exact EQ2.out)], rfl⟩
            · have g1 : decide ((q : Int) ≥ 4294967296) = true := decide_eq_true (by omega)
              have g1' : decide (4294967296 ≤ q) = true := decide_eq_true (by omega)
              have hn := est_next he (by have := EU.out; have := B.out.1; omega) B.out.2.2.2.2.2.1 B.out.2.2.2.1 B.out.2.1 (.inl hq)
              obtain ⟨k, hk⟩ : ∃ k, q - 1 = k := ⟨_, rfl⟩
              rw [hk] at hn
              have wk : IntKind.u64.wrap ((q : Int) - 1) = k := by rw [show (q : Int) - 1 = k by have := hn.1; omega]; exact wrapU k (by have := he.le; omega)
              have HL := Lib.hid (show k < q by have := hn.1; omega)
              clear hk
              have wr1 : IntKind.u64.wrap ((r : Int) + y1) = ((r + y1 : Nat) : Int) := by rw [← Int.natCast_add]; exact wrapU _ (by have := he.lt; have := B.out.2.2.1; omega)
              obtain ⟨r', hr'⟩ : ∃ n, r + y1 = n := ⟨_, rfl⟩
              rw [hr'] at wr1 hn
              by_cases hb : r' < 4294967296
              · have g3 : decide ((r' : Int) ≥ 4294967296) = false := decide_eq_false (by omega)
                have g3' : decide (4294967296 ≤ r') = false := decide_eq_false (by omega)
                have hE := Lib.hid (hn.2.1 hb)
                clear hn he hr' hq
                go_wp2
                go_roundw
                case rel => exact ⟨k, r', rfl, rfl, hE.out, trivial⟩
                case measure => have := HL.out; simp [intOf]; omega
              · have g3 : decide ((r' : Int) ≥ 4294967296) = true := decide_eq_true (by omega)
                have g3' : decide (4294967296 ≤ r') = true := decide_eq_true (by omega)
                have hE := Lib.hid (hn.2.2 hb)
                clear hn he hr' hq
                go_wp2
                go_meet
                case rel => exact ⟨by rw [show k = Q2 from hE.out.trans (by rw [← B.out.1]; exact EQ2.out)], rfl⟩
        case rest =>
          obtain ⟨rfl, rfl⟩ := hcut
          have w2 := EW2.out
          have sh := ES.out
          have fq := EF.out
          go_wp2
          go_ret2
          exact ⟨rfl, 0, rfl⟩
end Go.Proofs.Ythefkomalakfeaa.W
