/-
  vec: what MaxNorm, Within and InBox return, and that they only draw and make blocks of their own. No condition.
-/
import Derived.Test.YtmmoanclmngnjaaVH

namespace Go.Proofs.Ytmmoanclmngnjaa.W
open Go.RowKit Go.Proofs.Ytmmoanclmngnjaa.V

set_option maxHeartbeats 1600000 in
theorem norm_gw (ax ay : Int) (w : World) : Calls Try.prog 24 #[vV ax ay] w fun e w' => e = .returned (.int .i64 (normV ax ay)) ∧ ∃ q os, w' = Sort.grow (w.drewN q) os := by
  have c1 := fun w1 => absolute_any ax w1
  have c2 := fun w1 => absolute_any ay w1
  unfold normV
  generalize absV ax = s at *
  generalize absV ay = t at *
  have hP : ∀ w' : World, Nw (w.alloc (.cells #[.int .i64 ax, .int .i64 ay] 23)) w' → w'.cell? (⟨w.heap.size, 0, none⟩ : Addr) = some (.int .i64 ax) ∧ w'.cell? (⟨w.heap.size, 1, none⟩ : Addr) = some (.int .i64 ay) := fun w' h => by
    obtain ⟨a0, b0, _, _⟩ := ((Blk.new_at w 23 #[.int .i64 ax, .int .i64 ay] (n := w.heap.size) (by simp)).kp h id).two
    exact ⟨a0, b0⟩
  have HP := Lib.hid hP
  clear hP
  go_enter Try.func24, Try.ntmps24
  go_wp2_with fail
  go_region_held3 (fun w' : World => w'.cell? (⟨w.heap.size, 0, none⟩ : Addr) = some (.int .i64 ax) ∧ w'.cell? (⟨w.heap.size, 1, none⟩ : Addr) = some (.int .i64 ay))
    (first | exact HP.out _ (Kp.refl _ _) | exact HP.out _ (Kp.drew (Kp.refl _ _)) | exact HP.out _ (Kp.alloc (Kp.drew (Kp.refl _ _)) _) | exact HP.out _ (Kp.alloc (Kp.refl _ _) _) | exact HP.out _ hb | exact HP.out _ (Kp.alloc hb _) | fail)
    (first
      | (go_at_call 42; ((with_reducible refine (c1 _).mono ?_); rintro e x0 ⟨rfl, rfl⟩))
      | (go_at_call 42; ((with_reducible refine (c2 _).mono ?_); rintro e x1 ⟨rfl, rfl⟩)))
  go_wp2
  all_goals (go_ret; exact ⟨ret_int (by first | rfl | omega), by first | exact ⟨0, _, by rw [Sort.alloc_eq_grow]; rfl⟩ | exact ⟨1, _, by rw [Sort.alloc_eq_grow]; rfl⟩ | exact ⟨2, _, by rw [Sort.alloc_eq_grow]; rfl⟩ | exact ⟨3, _, by rw [Sort.alloc_eq_grow]; rfl⟩ | exact ⟨4, _, by rw [Sort.alloc_eq_grow]; rfl⟩⟩)

set_option maxHeartbeats 1600000 in
theorem within_gw (ax ay m : Int) (w : World) : Calls Try.prog 32 #[vV ax ay, .int .i64 m] w fun e w' => e = .returned (.bool (withinV ax ay m)) ∧ ∃ q os, w' = Sort.grow (w.drewN q) os := by
  unfold withinV
  obtain ⟨b0, h0⟩ : ∃ b, decide (w64 (-m) ≤ ax) = b := ⟨_, rfl⟩
  obtain ⟨b1, h1⟩ : ∃ b, decide (ax ≤ m) = b := ⟨_, rfl⟩
  obtain ⟨b2, h2⟩ : ∃ b, decide (w64 (-m) ≤ ay) = b := ⟨_, rfl⟩
  obtain ⟨b3, h3⟩ : ∃ b, decide (ay ≤ m) = b := ⟨_, rfl⟩
  rw [h0, h1, h2, h3]
  have h0 : decide (wrap64 (-m) ≤ ax) = b0 := h0
  have h2 : decide (wrap64 (-m) ≤ ay) = b2 := h2
  cases b0
  · clear h1 h2 h3
    go_enter Try.func32, Try.ntmps32
    go_wp2
    go_ret
    exact ⟨by simp, by first | exact ⟨0, _, by rw [Sort.alloc_eq_grow]; rfl⟩ | exact ⟨1, _, by rw [Sort.alloc_eq_grow]; rfl⟩ | exact ⟨2, _, by rw [Sort.alloc_eq_grow]; rfl⟩ | exact ⟨3, _, by rw [Sort.alloc_eq_grow]; rfl⟩ | exact ⟨4, _, by rw [Sort.alloc_eq_grow]; rfl⟩⟩
  · skip
    cases b1
    · clear h2 h3
      go_enter Try.func32, Try.ntmps32
      go_wp2
      go_ret
      exact ⟨by simp, by first | exact ⟨0, _, by rw [Sort.alloc_eq_grow]; rfl⟩ | exact ⟨1, _, by rw [Sort.alloc_eq_grow]; rfl⟩ | exact ⟨2, _, by rw [Sort.alloc_eq_grow]; rfl⟩ | exact ⟨3, _, by rw [Sort.alloc_eq_grow]; rfl⟩ | exact ⟨4, _, by rw [Sort.alloc_eq_grow]; rfl⟩⟩
    · skip
      cases b2
      · clear h3
        go_enter Try.func32, Try.ntmps32
        go_wp2
        go_ret
        exact ⟨by simp, by first | exact ⟨0, _, by rw [Sort.alloc_eq_grow]; rfl⟩ | exact ⟨1, _, by rw [Sort.alloc_eq_grow]; rfl⟩ | exact ⟨2, _, by rw [Sort.alloc_eq_grow]; rfl⟩ | exact ⟨3, _, by rw [Sort.alloc_eq_grow]; rfl⟩ | exact ⟨4, _, by rw [Sort.alloc_eq_grow]; rfl⟩⟩
      · skip
        cases b3
        · go_enter Try.func32, Try.ntmps32
          go_wp2
          go_ret
          exact ⟨by simp, by first | exact ⟨0, _, by rw [Sort.alloc_eq_grow]; rfl⟩ | exact ⟨1, _, by rw [Sort.alloc_eq_grow]; rfl⟩ | exact ⟨2, _, by rw [Sort.alloc_eq_grow]; rfl⟩ | exact ⟨3, _, by rw [Sort.alloc_eq_grow]; rfl⟩ | exact ⟨4, _, by rw [Sort.alloc_eq_grow]; rfl⟩⟩
        · go_enter Try.func32, Try.ntmps32
          go_wp2
          go_ret
          exact ⟨by simp, by first | exact ⟨0, _, by rw [Sort.alloc_eq_grow]; rfl⟩ | exact ⟨1, _, by rw [Sort.alloc_eq_grow]; rfl⟩ | exact ⟨2, _, by rw [Sort.alloc_eq_grow]; rfl⟩ | exact ⟨3, _, by rw [Sort.alloc_eq_grow]; rfl⟩ | exact ⟨4, _, by rw [Sort.alloc_eq_grow]; rfl⟩⟩

set_option maxHeartbeats 1600000 in
theorem rwithin_gw (ax ay m : Int) (w : World) : Calls Try.prog 33 #[vV ax ay, .int .i64 m] w fun e w' => e = .returned (.bool (withinV ax ay m)) ∧ ∃ q os, w' = Sort.grow (w.drewN q) os := by
  unfold withinV
  obtain ⟨b0, h0⟩ : ∃ b, decide (w64 (-m) ≤ ax) = b := ⟨_, rfl⟩
  obtain ⟨b1, h1⟩ : ∃ b, decide (ax ≤ m) = b := ⟨_, rfl⟩
  obtain ⟨b2, h2⟩ : ∃ b, decide (w64 (-m) ≤ ay) = b := ⟨_, rfl⟩
  obtain ⟨b3, h3⟩ : ∃ b, decide (ay ≤ m) = b := ⟨_, rfl⟩
  rw [h0, h1, h2, h3]
  have h0 : decide (ax ≥ wrap64 (-m)) = b0 := h0
  have h2 : decide (ay ≥ wrap64 (-m)) = b2 := h2
  cases b0
  · clear h1 h2 h3
    go_enter Try.func33, Try.ntmps33
    go_wp2
    go_ret
    exact ⟨by simp, by first | exact ⟨0, _, by rw [Sort.alloc_eq_grow]; rfl⟩ | exact ⟨1, _, by rw [Sort.alloc_eq_grow]; rfl⟩ | exact ⟨2, _, by rw [Sort.alloc_eq_grow]; rfl⟩ | exact ⟨3, _, by rw [Sort.alloc_eq_grow]; rfl⟩ | exact ⟨4, _, by rw [Sort.alloc_eq_grow]; rfl⟩⟩
  · skip
    cases b1
    · clear h2 h3
      go_enter Try.func33, Try.ntmps33
      go_wp2
      go_ret
      exact ⟨by simp, by first | exact ⟨0, _, by rw [Sort.alloc_eq_grow]; rfl⟩ | exact ⟨1, _, by rw [Sort.alloc_eq_grow]; rfl⟩ | exact ⟨2, _, by rw [Sort.alloc_eq_grow]; rfl⟩ | exact ⟨3, _, by rw [Sort.alloc_eq_grow]; rfl⟩ | exact ⟨4, _, by rw [Sort.alloc_eq_grow]; rfl⟩⟩
    · skip
      cases b2
      · clear h3
        go_enter Try.func33, Try.ntmps33
        go_wp2
        go_ret
        exact ⟨by simp, by first | exact ⟨0, _, by rw [Sort.alloc_eq_grow]; rfl⟩ | exact ⟨1, _, by rw [Sort.alloc_eq_grow]; rfl⟩ | exact ⟨2, _, by rw [Sort.alloc_eq_grow]; rfl⟩ | exact ⟨3, _, by rw [Sort.alloc_eq_grow]; rfl⟩ | exact ⟨4, _, by rw [Sort.alloc_eq_grow]; rfl⟩⟩
      · skip
        cases b3
        · go_enter Try.func33, Try.ntmps33
          go_wp2
          go_ret
          exact ⟨by simp, by first | exact ⟨0, _, by rw [Sort.alloc_eq_grow]; rfl⟩ | exact ⟨1, _, by rw [Sort.alloc_eq_grow]; rfl⟩ | exact ⟨2, _, by rw [Sort.alloc_eq_grow]; rfl⟩ | exact ⟨3, _, by rw [Sort.alloc_eq_grow]; rfl⟩ | exact ⟨4, _, by rw [Sort.alloc_eq_grow]; rfl⟩⟩
        · go_enter Try.func33, Try.ntmps33
          go_wp2
          go_ret
          exact ⟨by simp, by first | exact ⟨0, _, by rw [Sort.alloc_eq_grow]; rfl⟩ | exact ⟨1, _, by rw [Sort.alloc_eq_grow]; rfl⟩ | exact ⟨2, _, by rw [Sort.alloc_eq_grow]; rfl⟩ | exact ⟨3, _, by rw [Sort.alloc_eq_grow]; rfl⟩ | exact ⟨4, _, by rw [Sort.alloc_eq_grow]; rfl⟩⟩

set_option maxHeartbeats 1600000 in
theorem inBox_gw (lx ly hx hy ax ay : Int) (w : World) : Calls Try.prog 39 #[bV lx ly hx hy, vV ax ay] w fun e w' => e = .returned (.bool (inBoxV lx ly hx hy ax ay)) ∧ ∃ q os, w' = Sort.grow (w.drewN q) os := by
  unfold inBoxV
  obtain ⟨b0, h0⟩ : ∃ b, decide (lx ≤ ax) = b := ⟨_, rfl⟩
  obtain ⟨b1, h1⟩ : ∃ b, decide (ax ≤ hx) = b := ⟨_, rfl⟩
  obtain ⟨b2, h2⟩ : ∃ b, decide (ly ≤ ay) = b := ⟨_, rfl⟩
  obtain ⟨b3, h3⟩ : ∃ b, decide (ay ≤ hy) = b := ⟨_, rfl⟩
  rw [h0, h1, h2, h3]
  cases b0
  · clear h1 h2 h3
    go_enter Try.func39, Try.ntmps39
    go_wp2
    go_ret
    exact ⟨by simp, by first | exact ⟨0, _, by rw [Sort.alloc_eq_grow, Sort.alloc_eq_grow, Sort.grow_grow]; rfl⟩ | exact ⟨1, _, by rw [Sort.alloc_eq_grow, Sort.alloc_eq_grow, Sort.grow_grow]; rfl⟩ | exact ⟨2, _, by rw [Sort.alloc_eq_grow, Sort.alloc_eq_grow, Sort.grow_grow]; rfl⟩ | exact ⟨3, _, by rw [Sort.alloc_eq_grow, Sort.alloc_eq_grow, Sort.grow_grow]; rfl⟩ | exact ⟨4, _, by rw [Sort.alloc_eq_grow, Sort.alloc_eq_grow, Sort.grow_grow]; rfl⟩⟩
  · skip
    cases b1
    · clear h2 h3
      go_enter Try.func39, Try.ntmps39
      go_wp2
      go_ret
      exact ⟨by simp, by first | exact ⟨0, _, by rw [Sort.alloc_eq_grow, Sort.alloc_eq_grow, Sort.grow_grow]; rfl⟩ | exact ⟨1, _, by rw [Sort.alloc_eq_grow, Sort.alloc_eq_grow, Sort.grow_grow]; rfl⟩ | exact ⟨2, _, by rw [Sort.alloc_eq_grow, Sort.alloc_eq_grow, Sort.grow_grow]; rfl⟩ | exact ⟨3, _, by rw [Sort.alloc_eq_grow, Sort.alloc_eq_grow, Sort.grow_grow]; rfl⟩ | exact ⟨4, _, by rw [Sort.alloc_eq_grow, Sort.alloc_eq_grow, Sort.grow_grow]; rfl⟩⟩
    · skip
      cases b2
      · clear h3
        go_enter Try.func39, Try.ntmps39
        go_wp2
        go_ret
        exact ⟨by simp, by first | exact ⟨0, _, by rw [Sort.alloc_eq_grow, Sort.alloc_eq_grow, Sort.grow_grow]; rfl⟩ | exact ⟨1, _, by rw [Sort.alloc_eq_grow, Sort.alloc_eq_grow, Sort.grow_grow]; rfl⟩ | exact ⟨2, _, by rw [Sort.alloc_eq_grow, Sort.alloc_eq_grow, Sort.grow_grow]; rfl⟩ | exact ⟨3, _, by rw [Sort.alloc_eq_grow, Sort.alloc_eq_grow, Sort.grow_grow]; rfl⟩ | exact ⟨4, _, by rw [Sort.alloc_eq_grow, Sort.alloc_eq_grow, Sort.grow_grow]; rfl⟩⟩
      · skip
        cases b3
        · go_enter Try.func39, Try.ntmps39
          go_wp2
          go_ret
          exact ⟨by simp, by first | exact ⟨0, _, by rw [Sort.alloc_eq_grow, Sort.alloc_eq_grow, Sort.grow_grow]; rfl⟩ | exact ⟨1, _, by rw [Sort.alloc_eq_grow, Sort.alloc_eq_grow, Sort.grow_grow]; rfl⟩ | exact ⟨2, _, by rw [Sort.alloc_eq_grow, Sort.alloc_eq_grow, Sort.grow_grow]; rfl⟩ | exact ⟨3, _, by rw [Sort.alloc_eq_grow, Sort.alloc_eq_grow, Sort.grow_grow]; rfl⟩ | exact ⟨4, _, by rw [Sort.alloc_eq_grow, Sort.alloc_eq_grow, Sort.grow_grow]; rfl⟩⟩
        · go_enter Try.func39, Try.ntmps39
          go_wp2
          go_ret
          exact ⟨by simp, by first | exact ⟨0, _, by rw [Sort.alloc_eq_grow, Sort.alloc_eq_grow, Sort.grow_grow]; rfl⟩ | exact ⟨1, _, by rw [Sort.alloc_eq_grow, Sort.alloc_eq_grow, Sort.grow_grow]; rfl⟩ | exact ⟨2, _, by rw [Sort.alloc_eq_grow, Sort.alloc_eq_grow, Sort.grow_grow]; rfl⟩ | exact ⟨3, _, by rw [Sort.alloc_eq_grow, Sort.alloc_eq_grow, Sort.grow_grow]; rfl⟩ | exact ⟨4, _, by rw [Sort.alloc_eq_grow, Sort.alloc_eq_grow, Sort.grow_grow]; rfl⟩⟩

end Go.Proofs.Ytmmoanclmngnjaa.W
