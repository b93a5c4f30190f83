/-
  vec and its reference: order, norm, turn, boxes: what each function returns. No condition.
-/
import Derived.Test.YtahamffngmdjfaaVC
namespace Go.Proofs.Ytahamffngmdjfaa.W
open Go.RowKit Go.Proofs.Ytahamffngmdjfaa.V

theorem nw_grow (w : World) (os : Array Obj) : Nw w (Sort.grow w os) := ⟨rfl, rfl, rfl, by simp, fun i hi _ => Sort.heap_grow_old w os hi⟩
theorem nw_grown {w w' : World} (h : ∃ q os, w' = Sort.grow (w.drewN q) os) : Nw w w' := by
  obtain ⟨q, os, rfl⟩ := h
  exact (nw_drewN w q).tr (nw_grow _ os)
theorem compare_nw (ax ay bx bz : Int) (w : World) : Calls Try.prog 38 #[vV ax ay, vV bx bz] w fun e w' => e = .returned (.int .i64 (cmpV ax ay bx bz)) ∧ Nw w w' :=
  (compare_any ax ay bx bz w).mono fun _ _ h => ⟨h.1, nw_grown h.2⟩

theorem less_any (ax ay bx bz : Int) (w : World) : Calls Try.prog 40 #[vV ax ay, vV bx bz] w fun e w' => e = .returned (.bool (lessV ax ay bx bz)) ∧ Nw w w' := by
  have hc := fun w1 => compare_nw ax ay bx bz w1
  rw [less_cmp]
  generalize cmpV ax ay bx bz = r at *
  go_enter Try.func40, Try.ntmps40
  go_wp2_with (go_at_call 38; refine (hc _).mono ?_; rintro e w1 ⟨rfl, hk⟩)
  go_ret
  exact ⟨rfl, ((nw_alloc _ _).alloc _).tr hk⟩

theorem rless_any (ax ay bx bz : Int) (w : World) : Calls Try.prog 41 #[vV ax ay, vV bx bz] w fun e w' => e = .returned (.bool (lessV ax ay bx bz)) ∧ Nw w w' := by
  unfold lessV
  by_cases h1 : ay < bz
  · have e1 : decide (ay < bz) = true := decide_eq_true h1
    rw [e1]
    clear h1
    go_enter Try.func41, Try.ntmps41
    go_wp2
    go_ret
    exact ⟨by simp, by repeat (first | exact Kp.refl _ _ | refine Kp.alloc ?_ _ | refine Kp.drew ?_ | refine Kp.drewN ?_ _)⟩
  · have e1 : decide (ay < bz) = false := decide_eq_false h1
    rw [e1]
    clear h1
    by_cases h2 : ay = bz
    · subst h2
      clear e1
      have e1 : decide (ay < ay) = false := by simp
      go_enter Try.func41, Try.ntmps41
      go_wp2
      go_ret
      exact ⟨by simp, by repeat (first | exact Kp.refl _ _ | refine Kp.alloc ?_ _ | refine Kp.drew ?_ | refine Kp.drewN ?_ _)⟩
    · have e2 : (ay == bz) = false := by simp [h2]
      rw [decide_eq_false h2]
      clear h2
      go_enter Try.func41, Try.ntmps41
      go_wp2
      go_ret
      exact ⟨by simp, by repeat (first | exact Kp.refl _ _ | refine Kp.alloc ?_ _ | refine Kp.drew ?_ | refine Kp.drewN ?_ _)⟩

theorem sign_any (n : Int) (w : World) : Calls Try.prog 96 #[.int .i64 n] w fun e w' => e = .returned (.int .i64 (sgn n)) ∧ w = w' := by
  rcases sgn_cases n with ⟨h, e⟩ | ⟨h, e⟩ | ⟨h, e⟩ <;> rw [e] <;> clear e
  · have e1 : decide (n > 0) = false := decide_eq_false (by omega)
    have e2 : decide (n < 0) = true := decide_eq_true h
    clear h
    go_enter Try.func96, Try.ntmps96
    go_wp2
    go_ret
    exact ⟨rfl, rfl⟩
  · subst h
    go_enter Try.func96, Try.ntmps96
    go_wp2
    go_ret
    exact ⟨rfl, rfl⟩
  · have e1 : decide (n > 0) = true := decide_eq_true h
    clear h
    go_enter Try.func96, Try.ntmps96
    go_wp2
    go_ret
    exact ⟨rfl, rfl⟩

theorem absolute_any (n : Int) (w : World) : Calls Try.prog 93 #[.int .i64 n] w fun e w' => e = .returned (.int .i64 (absV n)) ∧ w = w' := by
  unfold absV
  by_cases h : 0 ≤ n
  · rw [if_pos h]
    have e1 : decide (n ≥ 0) = true := decide_eq_true h
    clear h
    go_enter Try.func93, Try.ntmps93
    go_wp2
    go_ret
    exact ⟨rfl, rfl⟩
  · rw [if_neg h]
    have e1 : decide (n ≥ 0) = false := decide_eq_false h
    clear h
    go_enter Try.func93, Try.ntmps93
    go_wp2
    go_ret
    exact ⟨rfl, rfl⟩
theorem rabs_any (n : Int) (w : World) : Calls Try.prog 94 #[.int .i64 n] w fun e w' => e = .returned (.int .i64 (absV n)) ∧ w = w' := by
  unfold absV
  by_cases h : 0 ≤ n
  · rw [if_pos h]
    have e1 : decide (n ≥ 0) = true := decide_eq_true h
    clear h
    go_enter Try.func94, Try.ntmps94
    go_wp2
    go_ret
    exact ⟨rfl, rfl⟩
  · rw [if_neg h]
    have e1 : decide (n ≥ 0) = false := decide_eq_false h
    clear h
    go_enter Try.func94, Try.ntmps94
    go_wp2
    go_ret
    exact ⟨rfl, rfl⟩

set_option maxHeartbeats 1600000 in
theorem norm_any (ax ay : Int) (w : World) : Calls Try.prog 34 #[vV ax ay] w fun e w' => e = .returned (.int .i64 (normV ax ay)) ∧ Nw w w' := by
  have c1 := fun w1 => absolute_any ax w1
  have c2 := fun w1 => absolute_any ay w1
  unfold normV
  generalize absV ax = s at *
  generalize absV ay = t at *
  have hP : ∀ w' : World, Nw (w.alloc (.cells #[.int .i64 ax, .int .i64 ay] 23)) w' → w'.cell? (⟨w.heap.size, 0, none⟩ : Addr) = some (.int .i64 ax) ∧ w'.cell? (⟨w.heap.size, 1, none⟩ : Addr) = some (.int .i64 ay) := fun w' h => by
    obtain ⟨a0, b0, _, _⟩ := ((Blk.new_at w 23 #[.int .i64 ax, .int .i64 ay] (n := w.heap.size) (by simp)).kp h id).two
    exact ⟨a0, b0⟩
  have HP := Lib.hid hP
  clear hP
  go_enter Try.func34, Try.ntmps34
  go_wp2_with fail
  go_region_held3 (fun w' : World => w'.cell? (⟨w.heap.size, 0, none⟩ : Addr) = some (.int .i64 ax) ∧ w'.cell? (⟨w.heap.size, 1, none⟩ : Addr) = some (.int .i64 ay))
    (first | exact HP.out _ (Kp.refl _ _) | exact HP.out _ (Kp.drew (Kp.refl _ _)) | exact HP.out _ (Kp.alloc (Kp.drew (Kp.refl _ _)) _) | exact HP.out _ (Kp.alloc (Kp.refl _ _) _) | exact HP.out _ hb | exact HP.out _ (Kp.alloc hb _) | fail)
    (first
      | (go_at_call 93; ((with_reducible refine (c1 _).mono ?_); rintro e x0 ⟨rfl, rfl⟩))
      | (go_at_call 93; ((with_reducible refine (c2 _).mono ?_); rintro e x1 ⟨rfl, rfl⟩)))
  go_wp2
  all_goals (go_ret; exact ⟨ret_int (by first | rfl | omega), by repeat (first | exact Kp.refl _ _ | refine Kp.alloc ?_ _ | refine Kp.drew ?_ | refine Kp.drewN ?_ _)⟩)

set_option maxHeartbeats 3200000 in
theorem turn_any (ax ay bx bz cx cy : Int) (w : World) : Calls Try.prog 36 #[vV ax ay, vV bx bz, vV cx cy] w fun e w' => e = .returned (.int .i64 (turnV ax ay bx bz cx cy)) ∧ Nw w w' := by
  have c1 := fun w1 => sub_any bx bz ax ay w1
  have c2 := fun w1 => sub_any cx cy ax ay w1
  have c3 := fun w1 => cross_any (w64 (bx - ax)) (w64 (bz - ay)) (w64 (cx - ax)) (w64 (cy - ay)) w1
  have c4 := fun w1 => compareInt_any (crossV (w64 (bx - ax)) (w64 (bz - ay)) (w64 (cx - ax)) (w64 (cy - ay))) 0 w1
  rw [Int.sub_zero] at c4
  rw [turn_cross] at c4
  generalize turnV ax ay bx bz cx cy = r at *
  generalize crossV (w64 (bx - ax)) (w64 (bz - ay)) (w64 (cx - ax)) (w64 (cy - ay)) = s at *
  generalize w64 (bx - ax) = s1 at *
  generalize w64 (bz - ay) = s2 at *
  generalize w64 (cx - ax) = s3 at *
  generalize w64 (cy - ay) = s4 at *
  have hP : ∀ w' : World, Nw (((w.alloc (.cells #[.int .i64 ax, .int .i64 ay] 23)).alloc (.cells #[.int .i64 bx, .int .i64 bz] 23)).alloc (.cells #[.int .i64 cx, .int .i64 cy] 23)) w' → w'.cell? (⟨w.heap.size, 0, none⟩ : Addr) = some (.int .i64 ax) ∧ w'.cell? (⟨w.heap.size, 1, none⟩ : Addr) = some (.int .i64 ay) ∧ w'.cell? (⟨w.heap.size + 1, 0, none⟩ : Addr) = some (.int .i64 bx) ∧ w'.cell? (⟨w.heap.size + 1, 1, none⟩ : Addr) = some (.int .i64 bz) ∧ w'.cell? (⟨w.heap.size + 1 + 1, 0, none⟩ : Addr) = some (.int .i64 cx) ∧ w'.cell? (⟨w.heap.size + 1 + 1, 1, none⟩ : Addr) = some (.int .i64 cy) := fun w' h => by
    obtain ⟨a0, b0, _, _⟩ := ((((Blk.new_at w 23 #[.int .i64 ax, .int .i64 ay] (n := w.heap.size) (by simp)).alloc (.cells #[.int .i64 bx, .int .i64 bz] 23)).alloc (.cells #[.int .i64 cx, .int .i64 cy] 23)).kp h id).two
    obtain ⟨a1, b1, _, _⟩ := (((Blk.new_at (w.alloc (.cells #[.int .i64 ax, .int .i64 ay] 23)) 23 #[.int .i64 bx, .int .i64 bz] (n := w.heap.size + 1) (by simp)).alloc (.cells #[.int .i64 cx, .int .i64 cy] 23)).kp h id).two
    obtain ⟨a2, b2, _, _⟩ := ((Blk.new_at ((w.alloc (.cells #[.int .i64 ax, .int .i64 ay] 23)).alloc (.cells #[.int .i64 bx, .int .i64 bz] 23)) 23 #[.int .i64 cx, .int .i64 cy] (n := w.heap.size + 1 + 1) (by simp)).kp h id).two
    exact ⟨a0, b0, a1, b1, a2, b2⟩
  have HP := Lib.hid hP
  clear hP
  go_enter Try.func36, Try.ntmps36
  go_wp2_with fail
  go_region_held3 (fun w' : World => w'.cell? (⟨w.heap.size, 0, none⟩ : Addr) = some (.int .i64 ax) ∧ w'.cell? (⟨w.heap.size, 1, none⟩ : Addr) = some (.int .i64 ay) ∧ w'.cell? (⟨w.heap.size + 1, 0, none⟩ : Addr) = some (.int .i64 bx) ∧ w'.cell? (⟨w.heap.size + 1, 1, none⟩ : Addr) = some (.int .i64 bz) ∧ w'.cell? (⟨w.heap.size + 1 + 1, 0, none⟩ : Addr) = some (.int .i64 cx) ∧ w'.cell? (⟨w.heap.size + 1 + 1, 1, none⟩ : Addr) = some (.int .i64 cy))
    (first | exact HP.out _ (Kp.refl _ _) | exact HP.out _ (Kp.drew (Kp.refl _ _)) | exact HP.out _ (Kp.alloc (Kp.drew (Kp.refl _ _)) _) | exact HP.out _ (Kp.alloc (Kp.refl _ _) _) | exact HP.out _ hb | exact HP.out _ (Kp.alloc hb _) | fail)
    (first
      | (go_at_call 24; ((with_reducible refine (c1 _).mono ?_); rintro e x0 ⟨rfl, hk⟩; have hb : Nw (((w.alloc (.cells #[.int .i64 ax, .int .i64 ay] 23)).alloc (.cells #[.int .i64 bx, .int .i64 bz] 23)).alloc (.cells #[.int .i64 cx, .int .i64 cy] 23)) x0 := (Kp.drew (Kp.refl _ _)).tr hk))
      | (go_at_call 24; ((with_reducible refine (c2 _).mono ?_); rintro e x1 ⟨rfl, hk⟩; have hb : Nw (((w.alloc (.cells #[.int .i64 ax, .int .i64 ay] 23)).alloc (.cells #[.int .i64 bx, .int .i64 bz] 23)).alloc (.cells #[.int .i64 cx, .int .i64 cy] 23)) x1 := hb.tr hk))
      | (go_at_call 32; ((with_reducible refine (c3 _).mono ?_); rintro e x2 ⟨rfl, hk⟩; have hb : Nw (((w.alloc (.cells #[.int .i64 ax, .int .i64 ay] 23)).alloc (.cells #[.int .i64 bx, .int .i64 bz] 23)).alloc (.cells #[.int .i64 cx, .int .i64 cy] 23)) x2 := hb.tr hk))
      | (go_at_call 95; ((with_reducible refine (c4 _).mono ?_); rintro e x3 ⟨rfl, rfl⟩)))
  go_wp2
  go_ret
  exact ⟨rfl, (((nw_alloc _ _).alloc _).alloc _).tr hb⟩

set_option maxHeartbeats 1600000 in
theorem rnorm_any (ax ay : Int) (w : World) : Calls Try.prog 35 #[vV ax ay] w fun e w' => e = .returned (.int .i64 (normV ax ay)) ∧ Nw w w' := by
  have c1 := fun w1 => rabs_any ax w1
  have c2 := fun w1 => rabs_any ay w1
  unfold normV
  generalize absV ax = s at *
  generalize absV ay = t at *
  have hP : ∀ w' : World, Nw (w.alloc (.cells #[.int .i64 ax, .int .i64 ay] 23)) w' → w'.cell? (⟨w.heap.size, 0, none⟩ : Addr) = some (.int .i64 ax) ∧ w'.cell? (⟨w.heap.size, 1, none⟩ : Addr) = some (.int .i64 ay) := fun w' h => by
    obtain ⟨a0, b0, _, _⟩ := ((Blk.new_at w 23 #[.int .i64 ax, .int .i64 ay] (n := w.heap.size) (by simp)).kp h id).two
    exact ⟨a0, b0⟩
  have HP := Lib.hid hP
  clear hP
  go_enter Try.func35, Try.ntmps35
  go_wp2_with fail
  go_region_held3 (fun w' : World => w'.cell? (⟨w.heap.size, 0, none⟩ : Addr) = some (.int .i64 ax) ∧ w'.cell? (⟨w.heap.size, 1, none⟩ : Addr) = some (.int .i64 ay))
    (first | exact HP.out _ (Kp.refl _ _) | exact HP.out _ (Kp.drew (Kp.refl _ _)) | exact HP.out _ (Kp.alloc (Kp.drew (Kp.refl _ _)) _) | exact HP.out _ (Kp.alloc (Kp.refl _ _) _) | exact HP.out _ hb | exact HP.out _ (Kp.alloc hb _) | fail)
    (first
      | (go_at_call 94; ((with_reducible refine (c1 _).mono ?_); rintro e x0 ⟨rfl, rfl⟩))
      | (go_at_call 94; ((with_reducible refine (c2 _).mono ?_); rintro e x1 ⟨rfl, rfl⟩)))
  go_wp2
  all_goals (go_ret; exact ⟨ret_int (by first | rfl | omega), by repeat (first | exact Kp.refl _ _ | refine Kp.alloc ?_ _ | refine Kp.drew ?_ | refine Kp.drewN ?_ _)⟩)

set_option maxHeartbeats 3200000 in
theorem rturn_any (ax ay bx bz cx cy : Int) (w : World) : Calls Try.prog 37 #[vV ax ay, vV bx bz, vV cx cy] w fun e w' => e = .returned (.int .i64 (turnV ax ay bx bz cx cy)) ∧ Nw w w' := by
  have c1 := fun w1 => rsub_any bx bz ax ay w1
  have c2 := fun w1 => rsub_any cx cy ax ay w1
  have c3 := fun w1 => rcross_any (w64 (bx - ax)) (w64 (bz - ay)) (w64 (cx - ax)) (w64 (cy - ay)) w1
  have c4 := fun w1 => sign_any (crossV (w64 (bx - ax)) (w64 (bz - ay)) (w64 (cx - ax)) (w64 (cy - ay))) w1
  rw [turn_cross] at c4
  generalize turnV ax ay bx bz cx cy = r at *
  generalize crossV (w64 (bx - ax)) (w64 (bz - ay)) (w64 (cx - ax)) (w64 (cy - ay)) = s at *
  generalize w64 (bx - ax) = s1 at *
  generalize w64 (bz - ay) = s2 at *
  generalize w64 (cx - ax) = s3 at *
  generalize w64 (cy - ay) = s4 at *
  have hP : ∀ w' : World, Nw (((w.alloc (.cells #[.int .i64 ax, .int .i64 ay] 23)).alloc (.cells #[.int .i64 bx, .int .i64 bz] 23)).alloc (.cells #[.int .i64 cx, .int .i64 cy] 23)) w' → w'.cell? (⟨w.heap.size, 0, none⟩ : Addr) = some (.int .i64 ax) ∧ w'.cell? (⟨w.heap.size, 1, none⟩ : Addr) = some (.int .i64 ay) ∧ w'.cell? (⟨w.heap.size + 1, 0, none⟩ : Addr) = some (.int .i64 bx) ∧ w'.cell? (⟨w.heap.size + 1, 1, none⟩ : Addr) = some (.int .i64 bz) ∧ w'.cell? (⟨w.heap.size + 1 + 1, 0, none⟩ : Addr) = some (.int .i64 cx) ∧ w'.cell? (⟨w.heap.size + 1 + 1, 1, none⟩ : Addr) = some (.int .i64 cy) := fun w' h => by
    obtain ⟨a0, b0, _, _⟩ := ((((Blk.new_at w 23 #[.int .i64 ax, .int .i64 ay] (n := w.heap.size) (by simp)).alloc (.cells #[.int .i64 bx, .int .i64 bz] 23)).alloc (.cells #[.int .i64 cx, .int .i64 cy] 23)).kp h id).two
    obtain ⟨a1, b1, _, _⟩ := (((Blk.new_at (w.alloc (.cells #[.int .i64 ax, .int .i64 ay] 23)) 23 #[.int .i64 bx, .int .i64 bz] (n := w.heap.size + 1) (by simp)).alloc (.cells #[.int .i64 cx, .int .i64 cy] 23)).kp h id).two
    obtain ⟨a2, b2, _, _⟩ := ((Blk.new_at ((w.alloc (.cells #[.int .i64 ax, .int .i64 ay] 23)).alloc (.cells #[.int .i64 bx, .int .i64 bz] 23)) 23 #[.int .i64 cx, .int .i64 cy] (n := w.heap.size + 1 + 1) (by simp)).kp h id).two
    exact ⟨a0, b0, a1, b1, a2, b2⟩
  have HP := Lib.hid hP
  clear hP
  go_enter Try.func37, Try.ntmps37
  go_wp2_with fail
  go_region_held3 (fun w' : World => w'.cell? (⟨w.heap.size, 0, none⟩ : Addr) = some (.int .i64 ax) ∧ w'.cell? (⟨w.heap.size, 1, none⟩ : Addr) = some (.int .i64 ay) ∧ w'.cell? (⟨w.heap.size + 1, 0, none⟩ : Addr) = some (.int .i64 bx) ∧ w'.cell? (⟨w.heap.size + 1, 1, none⟩ : Addr) = some (.int .i64 bz) ∧ w'.cell? (⟨w.heap.size + 1 + 1, 0, none⟩ : Addr) = some (.int .i64 cx) ∧ w'.cell? (⟨w.heap.size + 1 + 1, 1, none⟩ : Addr) = some (.int .i64 cy))
    (first | exact HP.out _ (Kp.refl _ _) | exact HP.out _ (Kp.drew (Kp.refl _ _)) | exact HP.out _ (Kp.alloc (Kp.drew (Kp.refl _ _)) _) | exact HP.out _ (Kp.alloc (Kp.refl _ _) _) | exact HP.out _ hb | exact HP.out _ (Kp.alloc hb _) | fail)
    (first
      | (go_at_call 25; ((with_reducible refine (c1 _).mono ?_); rintro e x0 ⟨rfl, hk⟩; have hb : Nw (((w.alloc (.cells #[.int .i64 ax, .int .i64 ay] 23)).alloc (.cells #[.int .i64 bx, .int .i64 bz] 23)).alloc (.cells #[.int .i64 cx, .int .i64 cy] 23)) x0 := (Kp.drew (Kp.refl _ _)).tr hk))
      | (go_at_call 25; ((with_reducible refine (c2 _).mono ?_); rintro e x1 ⟨rfl, hk⟩; have hb : Nw (((w.alloc (.cells #[.int .i64 ax, .int .i64 ay] 23)).alloc (.cells #[.int .i64 bx, .int .i64 bz] 23)).alloc (.cells #[.int .i64 cx, .int .i64 cy] 23)) x1 := hb.tr hk))
      | (go_at_call 33; ((with_reducible refine (c3 _).mono ?_); rintro e x2 ⟨rfl, hk⟩; have hb : Nw (((w.alloc (.cells #[.int .i64 ax, .int .i64 ay] 23)).alloc (.cells #[.int .i64 bx, .int .i64 bz] 23)).alloc (.cells #[.int .i64 cx, .int .i64 cy] 23)) x2 := hb.tr hk))
      | (go_at_call 96; ((with_reducible refine (c4 _).mono ?_); rintro e x3 ⟨rfl, rfl⟩)))
  go_wp2
  go_ret
  exact ⟨rfl, (((nw_alloc _ _).alloc _).alloc _).tr hb⟩

end Go.Proofs.Ytahamffngmdjfaa.W
