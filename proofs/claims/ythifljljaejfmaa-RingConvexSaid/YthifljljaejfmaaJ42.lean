/-
  ring: the reference's Where and Few; the law RingWhere: it returns true. No condition but that the list is not longer than 2^40.
-/
import Derived.Test.YthifljljaejfmaaJ39
import Derived.Test.YthifljljaejfmaaJ41
namespace Go.Proofs.Ythifljljaejfmaa.W
open Go.RowKit Go.Proofs.Ythifljljaejfmaa.V Go.Proofs.Ythifljljaejfmaa.G


set_option maxRecDepth 100000 in
set_option maxHeartbeats 3200000 in
theorem few_any (l : List (Int × Int)) (v : Value) (w : World) (hv : SrcV w v l) : Calls Try.prog 5 #[v] w fun e w' => e = .returned (.bool (decide (l.length ≤ 60))) ∧ Nw w w' := by
  obtain ⟨A, c, rfl⟩ := hv.shape
  obtain ⟨n, hn⟩ : ∃ n, l.length = n := ⟨_, rfl⟩
  rw [hn]
  clear hv hn
  by_cases h : n ≤ 60
  · have h1 : ((n : Int) ≤ 60) := by omega
    rw [decide_eq_true h]
    go_enter Try.func5, Try.ntmps5
    go_wp2_with fail
    go_ret
    exact ⟨by simp, Kp.refl _ _⟩
  · have h1 : ¬ ((n : Int) ≤ 60) := by omega
    rw [decide_eq_false h]
    go_enter Try.func5, Try.ntmps5
    go_wp2_with fail
    go_ret
    exact ⟨by simp, Kp.refl _ _⟩
theorem within_8 {x y : Int} (h : withinV x y 8000 = false) : validP x y 1 = false := by
  rw [← Bool.not_eq_true] at h ⊢
  intro hc
  apply h
  unfold validP at hc
  rw [Bool.and_eq_true] at hc
  obtain ⟨-, ⟨h3, h4, h5, h6⟩, -⟩ := in_mid (m := 4000) (by omega) hc.1
  unfold withinV
  rw [show w64 (-8000) = -8000 from w64_id ⟨by omega, by omega⟩]
  simp
  omega

theorem onS_onP {a b : Pt} (ha : Lm a.1 a.2) (hb : Lm b.1 b.2) {x y : Int} (hp : Lm x y) : onS a.1 a.2 b.1 b.2 x y = onP (a, b) x y 1 := by
  have hv : validS a.1 a.2 b.1 b.2 = true := by unfold validS; rw [Bool.and_eq_true, within_lm, within_lm]; exact ⟨ha, hb⟩
  rw [on_boxS hv]
  unfold onP
  rw [Int.mul_one, Int.mul_one, Int.mul_one, Int.mul_one]
  congr 1
  rw [turn_lm ha hb hp]
  apply Bool.eq_iff_iff.2
  rw [beq_iff_eq, beq_iff_eq, sgn_zero_iff]
  show (b.1 - a.1) * (y - a.2) - (b.2 - a.2) * (x - a.1) = 0 ↔ (b.1 - a.1) * (y - a.2 * 1) - (b.2 - a.2) * (x - a.1 * 1) = 0
  rw [Int.mul_one, Int.mul_one]
theorem where_one {l : List Pt} {x y : Int} (hv : validR l = true) (hp : Lm x y) : (whereR l x y 1 == 1) = anyOn (edgesP l) x y 1 := by
  unfold whereR
  rw [hv, valid_int hp, Bool.and_self, if_pos rfl]
  cases anyOn (edgesP l) x y 1
  · rw [if_neg (by simp)]
    split <;> rfl
  · rfl

end Go.Proofs.Ythifljljaejfmaa.W
