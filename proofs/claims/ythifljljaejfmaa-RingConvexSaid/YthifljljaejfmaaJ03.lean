/-
  vec and its reference: order, norm, turn, boxes: what each function returns. No condition.
  vec and its reference: Compare of the reference, Within, InBox: what each function returns. No condition.
-/
import Derived.Test.YthifljljaejfmaaJ02
namespace Go.Proofs.Ythifljljaejfmaa.W
open Go.RowKit Go.Proofs.Ythifljljaejfmaa.V

theorem nw_grow (w : World) (os : Array Obj) : Nw w (Sort.grow w os) := ⟨rfl, rfl, rfl, by simp, fun i hi _ => Sort.heap_grow_old w os hi⟩
theorem nw_grown {w w' : World} (h : ∃ q os, w' = Sort.grow (w.drewN q) os) : Nw w w' := by
  obtain ⟨q, os, rfl⟩ := h
  exact (nw_drewN w q).tr (nw_grow _ os)
theorem compare_nw (ax ay bx bz : Int) (w : World) : Calls Try.prog 43 #[vV ax ay, vV bx bz] w fun e w' => e = .returned (.int .i64 (cmpV ax ay bx bz)) ∧ Nw w w' :=
  (compare_any ax ay bx bz w).mono fun _ _ h => ⟨h.1, nw_grown h.2⟩

theorem less_any (ax ay bx bz : Int) (w : World) : Calls Try.prog 25 #[vV ax ay, vV bx bz] w fun e w' => e = .returned (.bool (lessV ax ay bx bz)) ∧ Nw w w' := by
  have hc := fun w1 => compare_nw ax ay bx bz w1
  rw [less_cmp]
  generalize cmpV ax ay bx bz = r at *
  go_enter Try.func25, Try.ntmps25
  go_wp2_with (go_at_call 43; refine (hc _).mono ?_; rintro e w1 ⟨rfl, hk⟩)
  go_ret
  exact ⟨rfl, ((nw_alloc _ _).alloc _).tr hk⟩

theorem sign_any (n : Int) (w : World) : Calls Try.prog 20 #[.int .i64 n] w fun e w' => e = .returned (.int .i64 (sgn n)) ∧ w = w' := by
  rcases sgn_cases n with ⟨h, e⟩ | ⟨h, e⟩ | ⟨h, e⟩ <;> rw [e] <;> clear e
  · have e1 : decide (n > 0) = false := decide_eq_false (by omega)
    have e2 : decide (n < 0) = true := decide_eq_true h
    clear h
    go_enter Try.func20, Try.ntmps20
    go_wp2
    go_ret
    exact ⟨rfl, rfl⟩
  · subst h
    go_enter Try.func20, Try.ntmps20
    go_wp2
    go_ret
    exact ⟨rfl, rfl⟩
  · have e1 : decide (n > 0) = true := decide_eq_true h
    clear h
    go_enter Try.func20, Try.ntmps20
    go_wp2
    go_ret
    exact ⟨rfl, rfl⟩

set_option maxHeartbeats 3200000 in
theorem turn_any (ax ay bx bz cx cy : Int) (w : World) : Calls Try.prog 44 #[vV ax ay, vV bx bz, vV cx cy] w fun e w' => e = .returned (.int .i64 (turnV ax ay bx bz cx cy)) ∧ Nw w w' := by
  have c1 := fun w1 => sub_any bx bz ax ay w1
  have c2 := fun w1 => sub_any cx cy ax ay w1
  have c3 := fun w1 => cross_any (w64 (bx - ax)) (w64 (bz - ay)) (w64 (cx - ax)) (w64 (cy - ay)) w1
  have c4 := fun w1 => compareInt_any (crossV (w64 (bx - ax)) (w64 (bz - ay)) (w64 (cx - ax)) (w64 (cy - ay))) 0 w1
  rw [Int.sub_zero] at c4
  rw [turn_cross] at c4
  generalize turnV ax ay bx bz cx cy = r at *
  generalize crossV (w64 (bx - ax)) (w64 (bz - ay)) (w64 (cx - ax)) (w64 (cy - ay)) = s at *
  generalize w64 (bx - ax) = s1 at *
  generalize w64 (bz - ay) = s2 at *
  generalize w64 (cx - ax) = s3 at *
  generalize w64 (cy - ay) = s4 at *
  have hP : ∀ w' : World, Nw (((w.alloc (.cells #[.int .i64 ax, .int .i64 ay] 28)).alloc (.cells #[.int .i64 bx, .int .i64 bz] 28)).alloc (.cells #[.int .i64 cx, .int .i64 cy] 28)) w' → w'.cell? (⟨w.heap.size, 0, none⟩ : Addr) = some (.int .i64 ax) ∧ w'.cell? (⟨w.heap.size, 1, none⟩ : Addr) = some (.int .i64 ay) ∧ w'.cell? (⟨w.heap.size + 1, 0, none⟩ : Addr) = some (.int .i64 bx) ∧ w'.cell? (⟨w.heap.size + 1, 1, none⟩ : Addr) = some (.int .i64 bz) ∧ w'.cell? (⟨w.heap.size + 1 + 1, 0, none⟩ : Addr) = some (.int .i64 cx) ∧ w'.cell? (⟨w.heap.size + 1 + 1, 1, none⟩ : Addr) = some (.int .i64 cy) := fun w' h => by
    obtain ⟨a0, b0, _, _⟩ := ((((Blk.new_at w 28 #[.int .i64 ax, .int .i64 ay] (n := w.heap.size) (by simp)).alloc (.cells #[.int .i64 bx, .int .i64 bz] 28)).alloc (.cells #[.int .i64 cx, .int .i64 cy] 28)).kp h id).two
    obtain ⟨a1, b1, _, _⟩ := (((Blk.new_at (w.alloc (.cells #[.int .i64 ax, .int .i64 ay] 28)) 28 #[.int .i64 bx, .int .i64 bz] (n := w.heap.size + 1) (by simp)).alloc (.cells #[.int .i64 cx, .int .i64 cy] 28)).kp h id).two
    obtain ⟨a2, b2, _, _⟩ := ((Blk.new_at ((w.alloc (.cells #[.int .i64 ax, .int .i64 ay] 28)).alloc (.cells #[.int .i64 bx, .int .i64 bz] 28)) 28 #[.int .i64 cx, .int .i64 cy] (n := w.heap.size + 1 + 1) (by simp)).kp h id).two
    exact ⟨a0, b0, a1, b1, a2, b2⟩
  have HP := Lib.hid hP
  clear hP
  go_enter Try.func44, Try.ntmps44
  go_wp2_with fail
  go_region_held3 (fun w' : World => w'.cell? (⟨w.heap.size, 0, none⟩ : Addr) = some (.int .i64 ax) ∧ w'.cell? (⟨w.heap.size, 1, none⟩ : Addr) = some (.int .i64 ay) ∧ w'.cell? (⟨w.heap.size + 1, 0, none⟩ : Addr) = some (.int .i64 bx) ∧ w'.cell? (⟨w.heap.size + 1, 1, none⟩ : Addr) = some (.int .i64 bz) ∧ w'.cell? (⟨w.heap.size + 1 + 1, 0, none⟩ : Addr) = some (.int .i64 cx) ∧ w'.cell? (⟨w.heap.size + 1 + 1, 1, none⟩ : Addr) = some (.int .i64 cy))
    (first | exact HP.out _ (Kp.refl _ _) | exact HP.out _ (Kp.drew (Kp.refl _ _)) | exact HP.out _ (Kp.alloc (Kp.drew (Kp.refl _ _)) _) | exact HP.out _ (Kp.alloc (Kp.refl _ _) _) | exact HP.out _ hb | exact HP.out _ (Kp.alloc hb _) | fail)
    (first
      | (go_at_call 28; ((with_reducible refine (c1 _).mono ?_); rintro e x0 ⟨rfl, hk⟩; have hb : Nw (((w.alloc (.cells #[.int .i64 ax, .int .i64 ay] 28)).alloc (.cells #[.int .i64 bx, .int .i64 bz] 28)).alloc (.cells #[.int .i64 cx, .int .i64 cy] 28)) x0 := (Kp.drew (Kp.refl _ _)).tr hk))
      | (go_at_call 28; ((with_reducible refine (c2 _).mono ?_); rintro e x1 ⟨rfl, hk⟩; have hb : Nw (((w.alloc (.cells #[.int .i64 ax, .int .i64 ay] 28)).alloc (.cells #[.int .i64 bx, .int .i64 bz] 28)).alloc (.cells #[.int .i64 cx, .int .i64 cy] 28)) x1 := hb.tr hk))
      | (go_at_call 27; ((with_reducible refine (c3 _).mono ?_); rintro e x2 ⟨rfl, hk⟩; have hb : Nw (((w.alloc (.cells #[.int .i64 ax, .int .i64 ay] 28)).alloc (.cells #[.int .i64 bx, .int .i64 bz] 28)).alloc (.cells #[.int .i64 cx, .int .i64 cy] 28)) x2 := hb.tr hk))
      | (go_at_call 50; ((with_reducible refine (c4 _).mono ?_); rintro e x3 ⟨rfl, rfl⟩)))
  go_wp2
  go_ret
  exact ⟨rfl, (((nw_alloc _ _).alloc _).alloc _).tr hb⟩

set_option maxHeartbeats 3200000 in
theorem rturn_any (ax ay bx bz cx cy : Int) (w : World) : Calls Try.prog 7 #[vV ax ay, vV bx bz, vV cx cy] w fun e w' => e = .returned (.int .i64 (turnV ax ay bx bz cx cy)) ∧ Nw w w' := by
  have c1 := fun w1 => rsub_any bx bz ax ay w1
  have c2 := fun w1 => rsub_any cx cy ax ay w1
  have c3 := fun w1 => rcross_any (w64 (bx - ax)) (w64 (bz - ay)) (w64 (cx - ax)) (w64 (cy - ay)) w1
  have c4 := fun w1 => sign_any (crossV (w64 (bx - ax)) (w64 (bz - ay)) (w64 (cx - ax)) (w64 (cy - ay))) w1
  rw [turn_cross] at c4
  generalize turnV ax ay bx bz cx cy = r at *
  generalize crossV (w64 (bx - ax)) (w64 (bz - ay)) (w64 (cx - ax)) (w64 (cy - ay)) = s at *
  generalize w64 (bx - ax) = s1 at *
  generalize w64 (bz - ay) = s2 at *
  generalize w64 (cx - ax) = s3 at *
  generalize w64 (cy - ay) = s4 at *
  have hP : ∀ w' : World, Nw (((w.alloc (.cells #[.int .i64 ax, .int .i64 ay] 28)).alloc (.cells #[.int .i64 bx, .int .i64 bz] 28)).alloc (.cells #[.int .i64 cx, .int .i64 cy] 28)) w' → w'.cell? (⟨w.heap.size, 0, none⟩ : Addr) = some (.int .i64 ax) ∧ w'.cell? (⟨w.heap.size, 1, none⟩ : Addr) = some (.int .i64 ay) ∧ w'.cell? (⟨w.heap.size + 1, 0, none⟩ : Addr) = some (.int .i64 bx) ∧ w'.cell? (⟨w.heap.size + 1, 1, none⟩ : Addr) = some (.int .i64 bz) ∧ w'.cell? (⟨w.heap.size + 1 + 1, 0, none⟩ : Addr) = some (.int .i64 cx) ∧ w'.cell? (⟨w.heap.size + 1 + 1, 1, none⟩ : Addr) = some (.int .i64 cy) := fun w' h => by
    obtain ⟨a0, b0, _, _⟩ := ((((Blk.new_at w 28 #[.int .i64 ax, .int .i64 ay] (n := w.heap.size) (by simp)).alloc (.cells #[.int .i64 bx, .int .i64 bz] 28)).alloc (.cells #[.int .i64 cx, .int .i64 cy] 28)).kp h id).two
    obtain ⟨a1, b1, _, _⟩ := (((Blk.new_at (w.alloc (.cells #[.int .i64 ax, .int .i64 ay] 28)) 28 #[.int .i64 bx, .int .i64 bz] (n := w.heap.size + 1) (by simp)).alloc (.cells #[.int .i64 cx, .int .i64 cy] 28)).kp h id).two
    obtain ⟨a2, b2, _, _⟩ := ((Blk.new_at ((w.alloc (.cells #[.int .i64 ax, .int .i64 ay] 28)).alloc (.cells #[.int .i64 bx, .int .i64 bz] 28)) 28 #[.int .i64 cx, .int .i64 cy] (n := w.heap.size + 1 + 1) (by simp)).kp h id).two
    exact ⟨a0, b0, a1, b1, a2, b2⟩
  have HP := Lib.hid hP
  clear hP
  go_enter Try.func7, Try.ntmps7
  go_wp2_with fail
  go_region_held3 (fun w' : World => w'.cell? (⟨w.heap.size, 0, none⟩ : Addr) = some (.int .i64 ax) ∧ w'.cell? (⟨w.heap.size, 1, none⟩ : Addr) = some (.int .i64 ay) ∧ w'.cell? (⟨w.heap.size + 1, 0, none⟩ : Addr) = some (.int .i64 bx) ∧ w'.cell? (⟨w.heap.size + 1, 1, none⟩ : Addr) = some (.int .i64 bz) ∧ w'.cell? (⟨w.heap.size + 1 + 1, 0, none⟩ : Addr) = some (.int .i64 cx) ∧ w'.cell? (⟨w.heap.size + 1 + 1, 1, none⟩ : Addr) = some (.int .i64 cy))
    (first | exact HP.out _ (Kp.refl _ _) | exact HP.out _ (Kp.drew (Kp.refl _ _)) | exact HP.out _ (Kp.alloc (Kp.drew (Kp.refl _ _)) _) | exact HP.out _ (Kp.alloc (Kp.refl _ _) _) | exact HP.out _ hb | exact HP.out _ (Kp.alloc hb _) | fail)
    (first
      | (go_at_call 22; ((with_reducible refine (c1 _).mono ?_); rintro e x0 ⟨rfl, hk⟩; have hb : Nw (((w.alloc (.cells #[.int .i64 ax, .int .i64 ay] 28)).alloc (.cells #[.int .i64 bx, .int .i64 bz] 28)).alloc (.cells #[.int .i64 cx, .int .i64 cy] 28)) x0 := (Kp.drew (Kp.refl _ _)).tr hk))
      | (go_at_call 22; ((with_reducible refine (c2 _).mono ?_); rintro e x1 ⟨rfl, hk⟩; have hb : Nw (((w.alloc (.cells #[.int .i64 ax, .int .i64 ay] 28)).alloc (.cells #[.int .i64 bx, .int .i64 bz] 28)).alloc (.cells #[.int .i64 cx, .int .i64 cy] 28)) x1 := hb.tr hk))
      | (go_at_call 21; ((with_reducible refine (c3 _).mono ?_); rintro e x2 ⟨rfl, hk⟩; have hb : Nw (((w.alloc (.cells #[.int .i64 ax, .int .i64 ay] 28)).alloc (.cells #[.int .i64 bx, .int .i64 bz] 28)).alloc (.cells #[.int .i64 cx, .int .i64 cy] 28)) x2 := hb.tr hk))
      | (go_at_call 20; ((with_reducible refine (c4 _).mono ?_); rintro e x3 ⟨rfl, rfl⟩)))
  go_wp2
  go_ret
  exact ⟨rfl, (((nw_alloc _ _).alloc _).alloc _).tr hb⟩

end Go.Proofs.Ythifljljaejfmaa.W

namespace Go.Proofs.Ythifljljaejfmaa.W
open Go.RowKit Go.Proofs.Ythifljljaejfmaa.V

abbrev bV (x y z t : Int) : Value := .agg #[.int .i64 x, .int .i64 y, .int .i64 z, .int .i64 t]

set_option maxHeartbeats 1600000 in
theorem within_any (ax ay m : Int) (w : World) : Calls Try.prog 38 #[vV ax ay, .int .i64 m] w fun e w' => e = .returned (.bool (withinV ax ay m)) ∧ Nw w w' := by
  unfold withinV
  obtain ⟨b0, h0⟩ : ∃ b, decide (w64 (-m) ≤ ax) = b := ⟨_, rfl⟩
  obtain ⟨b1, h1⟩ : ∃ b, decide (ax ≤ m) = b := ⟨_, rfl⟩
  obtain ⟨b2, h2⟩ : ∃ b, decide (w64 (-m) ≤ ay) = b := ⟨_, rfl⟩
  obtain ⟨b3, h3⟩ : ∃ b, decide (ay ≤ m) = b := ⟨_, rfl⟩
  rw [h0, h1, h2, h3]
  have h0 : decide (wrap64 (-m) ≤ ax) = b0 := h0
  have h2 : decide (wrap64 (-m) ≤ ay) = b2 := h2
  cases b0
  · clear h1 h2 h3
    go_enter Try.func38, Try.ntmps38
    go_wp2
    go_ret
    exact ⟨by simp, by repeat (first | exact Kp.refl _ _ | refine Kp.alloc ?_ _ | refine Kp.drew ?_ | refine Kp.drewN ?_ _)⟩
  · skip
    cases b1
    · clear h2 h3
      go_enter Try.func38, Try.ntmps38
      go_wp2
      go_ret
      exact ⟨by simp, by repeat (first | exact Kp.refl _ _ | refine Kp.alloc ?_ _ | refine Kp.drew ?_ | refine Kp.drewN ?_ _)⟩
    · skip
      cases b2
      · clear h3
        go_enter Try.func38, Try.ntmps38
        go_wp2
        go_ret
        exact ⟨by simp, by repeat (first | exact Kp.refl _ _ | refine Kp.alloc ?_ _ | refine Kp.drew ?_ | refine Kp.drewN ?_ _)⟩
      · skip
        cases b3
        · go_enter Try.func38, Try.ntmps38
          go_wp2
          go_ret
          exact ⟨by simp, by repeat (first | exact Kp.refl _ _ | refine Kp.alloc ?_ _ | refine Kp.drew ?_ | refine Kp.drewN ?_ _)⟩
        · go_enter Try.func38, Try.ntmps38
          go_wp2
          go_ret
          exact ⟨by simp, by repeat (first | exact Kp.refl _ _ | refine Kp.alloc ?_ _ | refine Kp.drew ?_ | refine Kp.drewN ?_ _)⟩

end Go.Proofs.Ythifljljaejfmaa.W
