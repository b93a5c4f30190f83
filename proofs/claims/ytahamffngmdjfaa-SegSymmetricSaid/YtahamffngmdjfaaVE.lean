/-
  vec and its reference: Compare of the reference, Within, InBox: what each function returns. No condition.
-/
import Derived.Test.YtahamffngmdjfaaVD
namespace Go.Proofs.Ytahamffngmdjfaa.W
open Go.RowKit Go.Proofs.Ytahamffngmdjfaa.V

abbrev bV (x y z t : Int) : Value := .agg #[.int .i64 x, .int .i64 y, .int .i64 z, .int .i64 t]

set_option maxHeartbeats 1600000 in
theorem rcompare_any (ax ay bx bz : Int) (w : World) : Calls Try.prog 39 #[vV ax ay, vV bx bz] w fun e w' => e = .returned (.int .i64 (cmpV ax ay bx bz)) ∧ Nw w w' := by
  have hc := fun w1 => rless_any ax ay bx bz w1
  rw [less_cmp] at hc
  have hP : ∀ w' : World, Nw ((w.alloc (.cells #[.int .i64 ax, .int .i64 ay] 23)).alloc (.cells #[.int .i64 bx, .int .i64 bz] 23)) w' → w'.cell? (⟨w.heap.size, 0, none⟩ : Addr) = some (.int .i64 ax) ∧ w'.cell? (⟨w.heap.size, 1, none⟩ : Addr) = some (.int .i64 ay) ∧ w'.cell? (⟨w.heap.size + 1, 0, none⟩ : Addr) = some (.int .i64 bx) ∧ w'.cell? (⟨w.heap.size + 1, 1, none⟩ : Addr) = some (.int .i64 bz) := fun w' h => by
    obtain ⟨a0, b0, _, _⟩ := (((Blk.new_at w 23 #[.int .i64 ax, .int .i64 ay] (n := w.heap.size) (by simp)).alloc (.cells #[.int .i64 bx, .int .i64 bz] 23)).kp h id).two
    obtain ⟨a1, b1, _, _⟩ := ((Blk.new_at (w.alloc (.cells #[.int .i64 ax, .int .i64 ay] 23)) 23 #[.int .i64 bx, .int .i64 bz] (n := w.heap.size + 1) (by simp)).kp h id).two
    exact ⟨a0, b0, a1, b1⟩
  have HP := Lib.hid hP
  clear hP
  rcases cmpV_cases ax ay bx bz with ⟨h, e⟩ | ⟨h, h', e⟩ | ⟨h, e⟩
  · rw [e] at hc ⊢
    have hc : ∀ w1, Calls Try.prog 41 #[vV ax ay, vV bx bz] w1 fun e w' => e = .returned (.bool true) ∧ Nw w1 w' := hc
    clear h e
    go_enter Try.func39, Try.ntmps39
    go_wp2_with (go_at_call 41; refine (hc _).mono ?_; rintro e w1 ⟨rfl, hk⟩)
    go_ret
    exact ⟨rfl, ((nw_alloc _ _).alloc _).tr hk⟩
  · rw [e] at hc ⊢
    have hc : ∀ w1, Calls Try.prog 41 #[vV ax ay, vV bx bz] w1 fun e w' => e = .returned (.bool false) ∧ Nw w1 w' := hc
    subst h h'
    clear e
    go_enter Try.func39, Try.ntmps39
    go_wp2_with fail
    refine (hc _).mono ?_
    rintro e w1 ⟨rfl, hk⟩
    obtain ⟨q0, q1, q2, q3⟩ := HP.out _ hk
    go_wp2
    go_ret
    exact ⟨rfl, by repeat (first | exact ((nw_alloc _ _).alloc _).tr hk | refine Kp.alloc ?_ _ | refine Kp.drew ?_ | refine Kp.drewN ?_ _)⟩
  · rw [e] at hc ⊢
    have hc : ∀ w1, Calls Try.prog 41 #[vV ax ay, vV bx bz] w1 fun e w' => e = .returned (.bool false) ∧ Nw w1 w' := hc
    clear e
    by_cases h1 : ax = bx
    · subst h1
      have e2 : (ay == bz) = false := by simp; omega
      clear h
      go_enter Try.func39, Try.ntmps39
      go_wp2_with fail
      refine (hc _).mono ?_
      rintro e w1 ⟨rfl, hk⟩
      obtain ⟨q0, q1, q2, q3⟩ := HP.out _ hk
      go_wp2
      go_ret
      exact ⟨rfl, by repeat (first | exact ((nw_alloc _ _).alloc _).tr hk | refine Kp.alloc ?_ _ | refine Kp.drew ?_ | refine Kp.drewN ?_ _)⟩
    · have e1 : (ax == bx) = false := by simp [h1]
      clear h
      go_enter Try.func39, Try.ntmps39
      go_wp2_with fail
      refine (hc _).mono ?_
      rintro e w1 ⟨rfl, hk⟩
      obtain ⟨q0, q1, q2, q3⟩ := HP.out _ hk
      go_wp2
      go_ret
      exact ⟨rfl, by repeat (first | exact ((nw_alloc _ _).alloc _).tr hk | refine Kp.alloc ?_ _ | refine Kp.drew ?_ | refine Kp.drewN ?_ _)⟩

set_option maxHeartbeats 1600000 in
theorem within_any (ax ay m : Int) (w : World) : Calls Try.prog 42 #[vV ax ay, .int .i64 m] w fun e w' => e = .returned (.bool (withinV ax ay m)) ∧ Nw w w' := by
  unfold withinV
  obtain ⟨b0, h0⟩ : ∃ b, decide (w64 (-m) ≤ ax) = b := ⟨_, rfl⟩
  obtain ⟨b1, h1⟩ : ∃ b, decide (ax ≤ m) = b := ⟨_, rfl⟩
  obtain ⟨b2, h2⟩ : ∃ b, decide (w64 (-m) ≤ ay) = b := ⟨_, rfl⟩
  obtain ⟨b3, h3⟩ : ∃ b, decide (ay ≤ m) = b := ⟨_, rfl⟩
  rw [h0, h1, h2, h3]
  have h0 : decide (wrap64 (-m) ≤ ax) = b0 := h0
  have h2 : decide (wrap64 (-m) ≤ ay) = b2 := h2
  cases b0
  · clear h1 h2 h3
    go_enter Try.func42, Try.ntmps42
    go_wp2
    go_ret
    exact ⟨by simp, by repeat (first | exact Kp.refl _ _ | refine Kp.alloc ?_ _ | refine Kp.drew ?_ | refine Kp.drewN ?_ _)⟩
  · skip
    cases b1
    · clear h2 h3
      go_enter Try.func42, Try.ntmps42
      go_wp2
      go_ret
      exact ⟨by simp, by repeat (first | exact Kp.refl _ _ | refine Kp.alloc ?_ _ | refine Kp.drew ?_ | refine Kp.drewN ?_ _)⟩
    · skip
      cases b2
      · clear h3
        go_enter Try.func42, Try.ntmps42
        go_wp2
        go_ret
        exact ⟨by simp, by repeat (first | exact Kp.refl _ _ | refine Kp.alloc ?_ _ | refine Kp.drew ?_ | refine Kp.drewN ?_ _)⟩
      · skip
        cases b3
        · go_enter Try.func42, Try.ntmps42
          go_wp2
          go_ret
          exact ⟨by simp, by repeat (first | exact Kp.refl _ _ | refine Kp.alloc ?_ _ | refine Kp.drew ?_ | refine Kp.drewN ?_ _)⟩
        · go_enter Try.func42, Try.ntmps42
          go_wp2
          go_ret
          exact ⟨by simp, by repeat (first | exact Kp.refl _ _ | refine Kp.alloc ?_ _ | refine Kp.drew ?_ | refine Kp.drewN ?_ _)⟩

set_option maxHeartbeats 1600000 in
theorem inBox_any (lx ly hx hy ax ay : Int) (w : World) : Calls Try.prog 49 #[bV lx ly hx hy, vV ax ay] w fun e w' => e = .returned (.bool (inBoxV lx ly hx hy ax ay)) ∧ Nw w w' := by
  unfold inBoxV
  obtain ⟨b0, h0⟩ : ∃ b, decide (lx ≤ ax) = b := ⟨_, rfl⟩
  obtain ⟨b1, h1⟩ : ∃ b, decide (ax ≤ hx) = b := ⟨_, rfl⟩
  obtain ⟨b2, h2⟩ : ∃ b, decide (ly ≤ ay) = b := ⟨_, rfl⟩
  obtain ⟨b3, h3⟩ : ∃ b, decide (ay ≤ hy) = b := ⟨_, rfl⟩
  rw [h0, h1, h2, h3]
  cases b0
  · clear h1 h2 h3
    go_enter Try.func49, Try.ntmps49
    go_wp2
    go_ret
    exact ⟨by simp, by repeat (first | exact Kp.refl _ _ | refine Kp.alloc ?_ _ | refine Kp.drew ?_ | refine Kp.drewN ?_ _)⟩
  · skip
    cases b1
    · clear h2 h3
      go_enter Try.func49, Try.ntmps49
      go_wp2
      go_ret
      exact ⟨by simp, by repeat (first | exact Kp.refl _ _ | refine Kp.alloc ?_ _ | refine Kp.drew ?_ | refine Kp.drewN ?_ _)⟩
    · skip
      cases b2
      · clear h3
        go_enter Try.func49, Try.ntmps49
        go_wp2
        go_ret
        exact ⟨by simp, by repeat (first | exact Kp.refl _ _ | refine Kp.alloc ?_ _ | refine Kp.drew ?_ | refine Kp.drewN ?_ _)⟩
      · skip
        cases b3
        · go_enter Try.func49, Try.ntmps49
          go_wp2
          go_ret
          exact ⟨by simp, by repeat (first | exact Kp.refl _ _ | refine Kp.alloc ?_ _ | refine Kp.drew ?_ | refine Kp.drewN ?_ _)⟩
        · go_enter Try.func49, Try.ntmps49
          go_wp2
          go_ret
          exact ⟨by simp, by repeat (first | exact Kp.refl _ _ | refine Kp.alloc ?_ _ | refine Kp.drew ?_ | refine Kp.drewN ?_ _)⟩

set_option maxHeartbeats 1600000 in
theorem rwithin_any (ax ay m : Int) (w : World) : Calls Try.prog 43 #[vV ax ay, .int .i64 m] w fun e w' => e = .returned (.bool (withinV ax ay m)) ∧ Nw w w' := by
  unfold withinV
  obtain ⟨b0, h0⟩ : ∃ b, decide (w64 (-m) ≤ ax) = b := ⟨_, rfl⟩
  obtain ⟨b1, h1⟩ : ∃ b, decide (ax ≤ m) = b := ⟨_, rfl⟩
  obtain ⟨b2, h2⟩ : ∃ b, decide (w64 (-m) ≤ ay) = b := ⟨_, rfl⟩
  obtain ⟨b3, h3⟩ : ∃ b, decide (ay ≤ m) = b := ⟨_, rfl⟩
  rw [h0, h1, h2, h3]
  have h0 : decide (ax ≥ wrap64 (-m)) = b0 := h0
  have h2 : decide (ay ≥ wrap64 (-m)) = b2 := h2
  cases b0
  · clear h1 h2 h3
    go_enter Try.func43, Try.ntmps43
    go_wp2
    go_ret
    exact ⟨by simp, by repeat (first | exact Kp.refl _ _ | refine Kp.alloc ?_ _ | refine Kp.drew ?_ | refine Kp.drewN ?_ _)⟩
  · skip
    cases b1
    · clear h2 h3
      go_enter Try.func43, Try.ntmps43
      go_wp2
      go_ret
      exact ⟨by simp, by repeat (first | exact Kp.refl _ _ | refine Kp.alloc ?_ _ | refine Kp.drew ?_ | refine Kp.drewN ?_ _)⟩
    · skip
      cases b2
      · clear h3
        go_enter Try.func43, Try.ntmps43
        go_wp2
        go_ret
        exact ⟨by simp, by repeat (first | exact Kp.refl _ _ | refine Kp.alloc ?_ _ | refine Kp.drew ?_ | refine Kp.drewN ?_ _)⟩
      · skip
        cases b3
        · go_enter Try.func43, Try.ntmps43
          go_wp2
          go_ret
          exact ⟨by simp, by repeat (first | exact Kp.refl _ _ | refine Kp.alloc ?_ _ | refine Kp.drew ?_ | refine Kp.drewN ?_ _)⟩
        · go_enter Try.func43, Try.ntmps43
          go_wp2
          go_ret
          exact ⟨by simp, by repeat (first | exact Kp.refl _ _ | refine Kp.alloc ?_ _ | refine Kp.drew ?_ | refine Kp.drewN ?_ _)⟩

set_option maxHeartbeats 1600000 in
theorem rinBox_any (lx ly hx hy ax ay : Int) (w : World) : Calls Try.prog 50 #[bV lx ly hx hy, vV ax ay] w fun e w' => e = .returned (.bool (inBoxV lx ly hx hy ax ay)) ∧ Nw w w' := by
  unfold inBoxV
  obtain ⟨b0, h0⟩ : ∃ b, decide (lx ≤ ax) = b := ⟨_, rfl⟩
  obtain ⟨b1, h1⟩ : ∃ b, decide (ax ≤ hx) = b := ⟨_, rfl⟩
  obtain ⟨b2, h2⟩ : ∃ b, decide (ly ≤ ay) = b := ⟨_, rfl⟩
  obtain ⟨b3, h3⟩ : ∃ b, decide (ay ≤ hy) = b := ⟨_, rfl⟩
  rw [h0, h1, h2, h3]
  have h0 : decide (ax ≥ lx) = b0 := h0
  have h2 : decide (ay ≥ ly) = b2 := h2
  cases b0
  · clear h1 h2 h3
    go_enter Try.func50, Try.ntmps50
    go_wp2
    go_ret
    exact ⟨by simp, by repeat (first | exact Kp.refl _ _ | refine Kp.alloc ?_ _ | refine Kp.drew ?_ | refine Kp.drewN ?_ _)⟩
  · skip
    cases b1
    · clear h2 h3
      go_enter Try.func50, Try.ntmps50
      go_wp2
      go_ret
      exact ⟨by simp, by repeat (first | exact Kp.refl _ _ | refine Kp.alloc ?_ _ | refine Kp.drew ?_ | refine Kp.drewN ?_ _)⟩
    · skip
      cases b2
      · clear h3
        go_enter Try.func50, Try.ntmps50
        go_wp2
        go_ret
        exact ⟨by simp, by repeat (first | exact Kp.refl _ _ | refine Kp.alloc ?_ _ | refine Kp.drew ?_ | refine Kp.drewN ?_ _)⟩
      · skip
        cases b3
        · go_enter Try.func50, Try.ntmps50
          go_wp2
          go_ret
          exact ⟨by simp, by repeat (first | exact Kp.refl _ _ | refine Kp.alloc ?_ _ | refine Kp.drew ?_ | refine Kp.drewN ?_ _)⟩
        · go_enter Try.func50, Try.ntmps50
          go_wp2
          go_ret
          exact ⟨by simp, by repeat (first | exact Kp.refl _ _ | refine Kp.alloc ?_ _ | refine Kp.drew ?_ | refine Kp.drewN ?_ _)⟩

end Go.Proofs.Ytahamffngmdjfaa.W
