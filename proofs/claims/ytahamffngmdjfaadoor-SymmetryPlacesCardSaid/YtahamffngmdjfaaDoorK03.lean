/-
  vec and its reference: Compare of the reference, Within, InBox: what each function returns. No condition.
-/
import Derived.Test.YtahamffngmdjfaaDoorK02
namespace Go.Proofs.YtahamffngmdjfaaDoor.W
open Go.RowKit Go.Proofs.YtahamffngmdjfaaDoor.V

abbrev bV (x y z t : Int) : Value := .agg #[.int .i64 x, .int .i64 y, .int .i64 z, .int .i64 t]

set_option maxHeartbeats 1600000 in
theorem within_any (ax ay m : Int) (w : World) : Calls Tryd.prog 75 #[vV ax ay, .int .i64 m] w fun e w' => e = .returned (.bool (withinV ax ay m)) ∧ Nw w w' := by
  unfold withinV
  obtain ⟨b0, h0⟩ : ∃ b, decide (w64 (-m) ≤ ax) = b := ⟨_, rfl⟩
  obtain ⟨b1, h1⟩ : ∃ b, decide (ax ≤ m) = b := ⟨_, rfl⟩
  obtain ⟨b2, h2⟩ : ∃ b, decide (w64 (-m) ≤ ay) = b := ⟨_, rfl⟩
  obtain ⟨b3, h3⟩ : ∃ b, decide (ay ≤ m) = b := ⟨_, rfl⟩
  rw [h0, h1, h2, h3]
  have h0 : decide (wrap64 (-m) ≤ ax) = b0 := h0
  have h2 : decide (wrap64 (-m) ≤ ay) = b2 := h2
  cases b0
  · clear h1 h2 h3
    go_enter Tryd.func75, Tryd.ntmps75
    go_wp2
    go_ret
    exact ⟨by simp, by repeat (first | exact Kp.refl _ _ | refine Kp.alloc ?_ _ | refine Kp.drew ?_ | refine Kp.drewN ?_ _)⟩
  · skip
    cases b1
    · clear h2 h3
      go_enter Tryd.func75, Tryd.ntmps75
      go_wp2
      go_ret
      exact ⟨by simp, by repeat (first | exact Kp.refl _ _ | refine Kp.alloc ?_ _ | refine Kp.drew ?_ | refine Kp.drewN ?_ _)⟩
    · skip
      cases b2
      · clear h3
        go_enter Tryd.func75, Tryd.ntmps75
        go_wp2
        go_ret
        exact ⟨by simp, by repeat (first | exact Kp.refl _ _ | refine Kp.alloc ?_ _ | refine Kp.drew ?_ | refine Kp.drewN ?_ _)⟩
      · skip
        cases b3
        · go_enter Tryd.func75, Tryd.ntmps75
          go_wp2
          go_ret
          exact ⟨by simp, by repeat (first | exact Kp.refl _ _ | refine Kp.alloc ?_ _ | refine Kp.drew ?_ | refine Kp.drewN ?_ _)⟩
        · go_enter Tryd.func75, Tryd.ntmps75
          go_wp2
          go_ret
          exact ⟨by simp, by repeat (first | exact Kp.refl _ _ | refine Kp.alloc ?_ _ | refine Kp.drew ?_ | refine Kp.drewN ?_ _)⟩

set_option maxHeartbeats 1600000 in
theorem rwithin_any (ax ay m : Int) (w : World) : Calls Tryd.prog 30 #[vV ax ay, .int .i64 m] w fun e w' => e = .returned (.bool (withinV ax ay m)) ∧ Nw w w' := by
  unfold withinV
  obtain ⟨b0, h0⟩ : ∃ b, decide (w64 (-m) ≤ ax) = b := ⟨_, rfl⟩
  obtain ⟨b1, h1⟩ : ∃ b, decide (ax ≤ m) = b := ⟨_, rfl⟩
  obtain ⟨b2, h2⟩ : ∃ b, decide (w64 (-m) ≤ ay) = b := ⟨_, rfl⟩
  obtain ⟨b3, h3⟩ : ∃ b, decide (ay ≤ m) = b := ⟨_, rfl⟩
  rw [h0, h1, h2, h3]
  have h0 : decide (ax ≥ wrap64 (-m)) = b0 := h0
  have h2 : decide (ay ≥ wrap64 (-m)) = b2 := h2
  cases b0
  · clear h1 h2 h3
    go_enter Tryd.func30, Tryd.ntmps30
    go_wp2
    go_ret
    exact ⟨by simp, by repeat (first | exact Kp.refl _ _ | refine Kp.alloc ?_ _ | refine Kp.drew ?_ | refine Kp.drewN ?_ _)⟩
  · skip
    cases b1
    · clear h2 h3
      go_enter Tryd.func30, Tryd.ntmps30
      go_wp2
      go_ret
      exact ⟨by simp, by repeat (first | exact Kp.refl _ _ | refine Kp.alloc ?_ _ | refine Kp.drew ?_ | refine Kp.drewN ?_ _)⟩
    · skip
      cases b2
      · clear h3
        go_enter Tryd.func30, Tryd.ntmps30
        go_wp2
        go_ret
        exact ⟨by simp, by repeat (first | exact Kp.refl _ _ | refine Kp.alloc ?_ _ | refine Kp.drew ?_ | refine Kp.drewN ?_ _)⟩
      · skip
        cases b3
        · go_enter Tryd.func30, Tryd.ntmps30
          go_wp2
          go_ret
          exact ⟨by simp, by repeat (first | exact Kp.refl _ _ | refine Kp.alloc ?_ _ | refine Kp.drew ?_ | refine Kp.drewN ?_ _)⟩
        · go_enter Tryd.func30, Tryd.ntmps30
          go_wp2
          go_ret
          exact ⟨by simp, by repeat (first | exact Kp.refl _ _ | refine Kp.alloc ?_ _ | refine Kp.drew ?_ | refine Kp.drewN ?_ _)⟩

end Go.Proofs.YtahamffngmdjfaaDoor.W
