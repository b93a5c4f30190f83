/-
  seg and its reference: the greatest common divisor, points in lowest terms. Conditions: numbers within 2^62; the denominator is positive.
-/
import Derived.Test.YtahamffngmdjfaaDoorGQ
import Derived.Test.YtahamffngmdjfaaDoorGPc
namespace Go.Proofs.YtahamffngmdjfaaDoor.W
open Go.RowKit Go.Proofs.YtahamffngmdjfaaDoor.V Go.Proofs.YtahamffngmdjfaaDoor.G

def Mid (a : Int) : Prop := -4611686018427387904 ≤ a ∧ a ≤ 4611686018427387904
theorem tmod_small (a b : Int) (h : b ≠ 0) : (a.tmod b).natAbs < b.natAbs := by
  rw [Int.natAbs_tmod]
  exact Nat.mod_lt _ (by omega)
theorem gcd_tmod (a b : Int) : Int.gcd b (a.tmod b) = Int.gcd a b := by
  show Nat.gcd b.natAbs (a.tmod b).natAbs = Nat.gcd a.natAbs b.natAbs
  rw [Int.natAbs_tmod, Nat.gcd_comm, ← Nat.gcd_rec, Nat.gcd_comm]
theorem wrap_mid {a : Int} (h : -9223372036854775808 ≤ a ∧ a ≤ 9223372036854775807) : IntKind.i64.wrap a = a := by
  rw [IntKind.wrap_i64]
  omega
theorem divisor_any (a b : Int) (ha : 0 ≤ a ∧ a ≤ 4611686018427387904) (hb : 0 ≤ b ∧ b ≤ 4611686018427387904) (w : World) : Calls Tryd.prog 86 #[.int .i64 a, .int .i64 b] w fun e w' => e = .returned (.int .i64 (Int.gcd a b : Nat)) ∧ Nw w w' := by
  have HA := Lib.hid ha
  have HB := Lib.hid hb
  clear ha hb
  go_enter Tryd.func86, Tryd.ntmps86
  go_wp2
  go_loopw [0, 1] (fun u v wr => ∃ x y : Int, u = .int .i64 x ∧ v = .int .i64 y ∧ (0 ≤ x ∧ x ≤ 4611686018427387904) ∧ (0 ≤ y ∧ y ≤ 4611686018427387904) ∧ Int.gcd x y = Int.gcd a b ∧ Nw w wr) (fun _ v _ => (intOf v).natAbs)
  case atStart => exact ⟨a, b, rfl, rfl, HA.out, HB.out, rfl, Kp.refl _ _⟩
  case round =>
    obtain ⟨x, y, rfl, rfl, hx, hy, hg, hn⟩ := hrel
    have HX := Lib.hid hx
    have HY := Lib.hid hy
    have HG := Lib.hid hg
    have HN := Lib.hid hn
    clear hx hy hg hn
    by_cases h0 : y = 0
    · subst h0
      have HRES := Lib.hid (show Int.gcd a b = x.natAbs by rw [← HG.out, Int.gcd_zero_right])
      go_wp2
      go_ret
      exact ⟨by rw [HRES.out]; have := HX.out; simp; omega, HN.out⟩
    · have hne : (y != 0) = true := by simp [h0]
      have hmod : IntKind.i64.wrap (x.tmod y) = x.tmod y := by
        have := tmod_small x y h0
        obtain ⟨_, _⟩ := HY.out
        exact wrap_mid (by omega)
      have hsm := tmod_small x y h0
      have hps := Int.tmod_nonneg y HX.out.1
      obtain ⟨r, hr⟩ : ∃ r, x.tmod y = r := ⟨_, rfl⟩
      have HR := Lib.hid hr
      rw [hr] at hmod hsm hps
      have HS := Lib.hid hsm
      have HT := Lib.hid hps
      clear hsm hps
      go_wp2_with fail
      go_region
      go_wp2
      go_roundw
      case rel => exact ⟨y, r, rfl, rfl, HY.out, by have := HS.out; have := HY.out; have := HT.out; omega, by rw [← HR.out, gcd_tmod]; exact HG.out, by repeat (first | exact HN.out | refine Kp.drew ?_)⟩
      case measure => have := HS.out; simp [intOf]; omega

end Go.Proofs.YtahamffngmdjfaaDoor.W
