/-
  seg and its reference: the greatest common divisor, points in lowest terms. Conditions: numbers within 2^62; the denominator is positive.
-/
import Derived.Test.YtahamffngmdjfaaGQ
import Derived.Test.YtahamffngmdjfaaGPc
namespace Go.Proofs.Ytahamffngmdjfaa.W
open Go.RowKit Go.Proofs.Ytahamffngmdjfaa.V Go.Proofs.Ytahamffngmdjfaa.G

def Mid (a : Int) : Prop := -4611686018427387904 ≤ a ∧ a ≤ 4611686018427387904
theorem tmod_small (a b : Int) (h : b ≠ 0) : (a.tmod b).natAbs < b.natAbs := by
  rw [Int.natAbs_tmod]
  exact Nat.mod_lt _ (by omega)
theorem gcd_tmod (a b : Int) : Int.gcd b (a.tmod b) = Int.gcd a b := by
  show Nat.gcd b.natAbs (a.tmod b).natAbs = Nat.gcd a.natAbs b.natAbs
  rw [Int.natAbs_tmod, Nat.gcd_comm, ← Nat.gcd_rec, Nat.gcd_comm]
theorem wrap_mid {a : Int} (h : -9223372036854775808 ≤ a ∧ a ≤ 9223372036854775807) : IntKind.i64.wrap a = a := by
  rw [IntKind.wrap_i64]
  omega
theorem gcd_any (a b : Int) (ha : Mid a) (hb : Mid b) (w : World) : Calls Try.prog 107 #[.int .i64 a, .int .i64 b] w fun e w' => e = .returned (.int .i64 (Int.gcd a b : Nat)) ∧ Nw w w' := by
  have HA := Lib.hid ha
  have HB := Lib.hid hb
  clear ha hb
  go_enter Try.func107, Try.ntmps107
  go_wp2
  go_loopw [0, 1] (fun u v wr => ∃ x y : Int, u = .int .i64 x ∧ v = .int .i64 y ∧ Mid x ∧ Mid y ∧ Int.gcd x y = Int.gcd a b ∧ Nw w wr) (fun _ v _ => (intOf v).natAbs)
  case atStart => exact ⟨a, b, rfl, rfl, HA.out, HB.out, rfl, Kp.refl _ _⟩
  case round =>
    obtain ⟨x, y, rfl, rfl, hx, hy, hg, hn⟩ := hrel
    have HX := Lib.hid hx
    have HY := Lib.hid hy
    have HG := Lib.hid hg
    have HN := Lib.hid hn
    clear hx hy hg hn
    by_cases h0 : y = 0
    · subst h0
      have HRES := Lib.hid (show Int.gcd a b = x.natAbs by rw [← HG.out, Int.gcd_zero_right])
      by_cases hx : x < 0
      · have e1 : decide (x < 0) = true := decide_eq_true hx
        have HL := Lib.hid hx
        clear hx
        go_wp2
        go_ret
        exact ⟨by rw [HRES.out]; have := HX.out.1; have := HX.out.2; have := HL.out; have e := w64_id (n := -x) ⟨by omega, by omega⟩; unfold w64 at e; simp; omega, HN.out⟩
      · have e1 : decide (x < 0) = false := decide_eq_false hx
        have HL := Lib.hid hx
        clear hx
        go_wp2
        go_ret
        exact ⟨by rw [HRES.out]; have := HX.out.1; have := HL.out; simp; omega, HN.out⟩
    · have hne : (y != 0) = true := by simp [h0]
      have hmod : IntKind.i64.wrap (x.tmod y) = x.tmod y := by
        have := tmod_small x y h0
        obtain ⟨_, _⟩ := HY.out
        exact wrap_mid (by omega)
      have hsm := tmod_small x y h0
      obtain ⟨r, hr⟩ : ∃ r, x.tmod y = r := ⟨_, rfl⟩
      have HR := Lib.hid hr
      rw [hr] at hmod hsm
      have HS := Lib.hid hsm
      clear hsm
      go_wp2_with fail
      go_region
      go_wp2
      go_roundw
      case rel => exact ⟨y, r, rfl, rfl, HY.out, by have := HS.out; have := HY.out; unfold Mid at *; omega, by rw [← HR.out, gcd_tmod]; exact HG.out, by repeat (first | exact HN.out | refine Kp.drew ?_)⟩
      case measure => have := HS.out; simp [intOf]; omega
theorem divisor_any (a b : Int) (ha : 0 ≤ a ∧ a ≤ 4611686018427387904) (hb : 0 ≤ b ∧ b ≤ 4611686018427387904) (w : World) : Calls Try.prog 108 #[.int .i64 a, .int .i64 b] w fun e w' => e = .returned (.int .i64 (Int.gcd a b : Nat)) ∧ Nw w w' := by
  have HA := Lib.hid ha
  have HB := Lib.hid hb
  clear ha hb
  go_enter Try.func108, Try.ntmps108
  go_wp2
  go_loopw [0, 1] (fun u v wr => ∃ x y : Int, u = .int .i64 x ∧ v = .int .i64 y ∧ (0 ≤ x ∧ x ≤ 4611686018427387904) ∧ (0 ≤ y ∧ y ≤ 4611686018427387904) ∧ Int.gcd x y = Int.gcd a b ∧ Nw w wr) (fun _ v _ => (intOf v).natAbs)
  case atStart => exact ⟨a, b, rfl, rfl, HA.out, HB.out, rfl, Kp.refl _ _⟩
  case round =>
    obtain ⟨x, y, rfl, rfl, hx, hy, hg, hn⟩ := hrel
    have HX := Lib.hid hx
    have HY := Lib.hid hy
    have HG := Lib.hid hg
    have HN := Lib.hid hn
    clear hx hy hg hn
    by_cases h0 : y = 0
    · subst h0
      have HRES := Lib.hid (show Int.gcd a b = x.natAbs by rw [← HG.out, Int.gcd_zero_right])
      go_wp2
      go_ret
      exact ⟨by rw [HRES.out]; have := HX.out; simp; omega, HN.out⟩
    · have hne : (y != 0) = true := by simp [h0]
      have hmod : IntKind.i64.wrap (x.tmod y) = x.tmod y := by
        have := tmod_small x y h0
        obtain ⟨_, _⟩ := HY.out
        exact wrap_mid (by omega)
      have hsm := tmod_small x y h0
      have hps := Int.tmod_nonneg y HX.out.1
      obtain ⟨r, hr⟩ : ∃ r, x.tmod y = r := ⟨_, rfl⟩
      have HR := Lib.hid hr
      rw [hr] at hmod hsm hps
      have HS := Lib.hid hsm
      have HT := Lib.hid hps
      clear hsm hps
      go_wp2_with fail
      go_region
      go_wp2
      go_roundw
      case rel => exact ⟨y, r, rfl, rfl, HY.out, by have := HS.out; have := HY.out; have := HT.out; omega, by rw [← HR.out, gcd_tmod]; exact HG.out, by repeat (first | exact HN.out | refine Kp.drew ?_)⟩
      case measure => have := HS.out; simp [intOf]; omega

end Go.Proofs.Ytahamffngmdjfaa.W
