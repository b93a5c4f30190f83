/-
  vec and its reference: order, norm, turn, boxes: what each function returns. No condition.
  vec and its reference: Compare of the reference, Within, InBox: what each function returns. No condition.
  Lists of vectors and boxes in memory. No condition.
  ring, plain: lists of points by index, turns, areas, edges; no program. No condition.
  vec, plain: the turn and the order of small vectors; no program. Condition: the coordinates are within 2^28 where it says so.
  Regions that draw their order, whose operations only read and whose callees leave all old blocks alone: one walk. No condition.
  ring: a list of vectors in memory, its elements by index; remainders by a length. No condition.
-/
import Derived.Test.YthbgapcplgigoaaK01
import Derived.Deep.QuietTactic
import Derived.Shelf.SlSortCmp.QuietGrown
namespace Go.Proofs.Ythbgapcplgigoaa.W
open Go.RowKit Go.Proofs.Ythbgapcplgigoaa.V

theorem nw_grow (w : World) (os : Array Obj) : Nw w (Sort.grow w os) := ⟨rfl, rfl, rfl, by simp, fun i hi _ => Sort.heap_grow_old w os hi⟩
theorem nw_grown {w w' : World} (h : ∃ q os, w' = Sort.grow (w.drewN q) os) : Nw w w' := by
  obtain ⟨q, os, rfl⟩ := h
  exact (nw_drewN w q).tr (nw_grow _ os)
theorem compare_nw (ax ay bx bz : Int) (w : World) : Calls Try.prog 38 #[vV ax ay, vV bx bz] w fun e w' => e = .returned (.int .i64 (cmpV ax ay bx bz)) ∧ Nw w w' :=
  (compare_any ax ay bx bz w).mono fun _ _ h => ⟨h.1, nw_grown h.2⟩

theorem less_any (ax ay bx bz : Int) (w : World) : Calls Try.prog 52 #[vV ax ay, vV bx bz] w fun e w' => e = .returned (.bool (lessV ax ay bx bz)) ∧ Nw w w' := by
  have hc := fun w1 => compare_nw ax ay bx bz w1
  rw [less_cmp]
  generalize cmpV ax ay bx bz = r at *
  go_enter Try.func52, Try.ntmps52
  go_wp2_with (go_at_call 38; refine (hc _).mono ?_; rintro e w1 ⟨rfl, hk⟩)
  go_ret
  exact ⟨rfl, ((nw_alloc _ _).alloc _).tr hk⟩

theorem rless_any (ax ay bx bz : Int) (w : World) : Calls Try.prog 28 #[vV ax ay, vV bx bz] w fun e w' => e = .returned (.bool (lessV ax ay bx bz)) ∧ Nw w w' := by
  unfold lessV
  by_cases h1 : ay < bz
  · have e1 : decide (ay < bz) = true := decide_eq_true h1
    rw [e1]
    clear h1
    go_enter Try.func28, Try.ntmps28
    go_wp2
    go_ret
    exact ⟨by simp, by repeat (first | exact Kp.refl _ _ | refine Kp.alloc ?_ _ | refine Kp.drew ?_ | refine Kp.drewN ?_ _)⟩
  · have e1 : decide (ay < bz) = false := decide_eq_false h1
    rw [e1]
    clear h1
    by_cases h2 : ay = bz
    · subst h2
      clear e1
      have e1 : decide (ay < ay) = false := by simp
      go_enter Try.func28, Try.ntmps28
      go_wp2
      go_ret
      exact ⟨by simp, by repeat (first | exact Kp.refl _ _ | refine Kp.alloc ?_ _ | refine Kp.drew ?_ | refine Kp.drewN ?_ _)⟩
    · have e2 : (ay == bz) = false := by simp [h2]
      rw [decide_eq_false h2]
      clear h2
      go_enter Try.func28, Try.ntmps28
      go_wp2
      go_ret
      exact ⟨by simp, by repeat (first | exact Kp.refl _ _ | refine Kp.alloc ?_ _ | refine Kp.drew ?_ | refine Kp.drewN ?_ _)⟩

theorem sign_any (n : Int) (w : World) : Calls Try.prog 53 #[.int .i64 n] w fun e w' => e = .returned (.int .i64 (sgn n)) ∧ w = w' := by
  rcases sgn_cases n with ⟨h, e⟩ | ⟨h, e⟩ | ⟨h, e⟩ <;> rw [e] <;> clear e
  · have e1 : decide (n > 0) = false := decide_eq_false (by omega)
    have e2 : decide (n < 0) = true := decide_eq_true h
    clear h
    go_enter Try.func53, Try.ntmps53
    go_wp2
    go_ret
    exact ⟨rfl, rfl⟩
  · subst h
    go_enter Try.func53, Try.ntmps53
    go_wp2
    go_ret
    exact ⟨rfl, rfl⟩
  · have e1 : decide (n > 0) = true := decide_eq_true h
    clear h
    go_enter Try.func53, Try.ntmps53
    go_wp2
    go_ret
    exact ⟨rfl, rfl⟩

set_option maxHeartbeats 3200000 in
theorem turn_any (ax ay bx bz cx cy : Int) (w : World) : Calls Try.prog 51 #[vV ax ay, vV bx bz, vV cx cy] w fun e w' => e = .returned (.int .i64 (turnV ax ay bx bz cx cy)) ∧ Nw w w' := by
  have c1 := fun w1 => sub_any bx bz ax ay w1
  have c2 := fun w1 => sub_any cx cy ax ay w1
  have c3 := fun w1 => cross_any (w64 (bx - ax)) (w64 (bz - ay)) (w64 (cx - ax)) (w64 (cy - ay)) w1
  have c4 := fun w1 => compareInt_any (crossV (w64 (bx - ax)) (w64 (bz - ay)) (w64 (cx - ax)) (w64 (cy - ay))) 0 w1
  rw [Int.sub_zero] at c4
  rw [turn_cross] at c4
  generalize turnV ax ay bx bz cx cy = r at *
  generalize crossV (w64 (bx - ax)) (w64 (bz - ay)) (w64 (cx - ax)) (w64 (cy - ay)) = s at *
  generalize w64 (bx - ax) = s1 at *
  generalize w64 (bz - ay) = s2 at *
  generalize w64 (cx - ax) = s3 at *
  generalize w64 (cy - ay) = s4 at *
  have hP : ∀ w' : World, Nw (((w.alloc (.cells #[.int .i64 ax, .int .i64 ay] 32)).alloc (.cells #[.int .i64 bx, .int .i64 bz] 32)).alloc (.cells #[.int .i64 cx, .int .i64 cy] 32)) w' → w'.cell? (⟨w.heap.size, 0, none⟩ : Addr) = some (.int .i64 ax) ∧ w'.cell? (⟨w.heap.size, 1, none⟩ : Addr) = some (.int .i64 ay) ∧ w'.cell? (⟨w.heap.size + 1, 0, none⟩ : Addr) = some (.int .i64 bx) ∧ w'.cell? (⟨w.heap.size + 1, 1, none⟩ : Addr) = some (.int .i64 bz) ∧ w'.cell? (⟨w.heap.size + 1 + 1, 0, none⟩ : Addr) = some (.int .i64 cx) ∧ w'.cell? (⟨w.heap.size + 1 + 1, 1, none⟩ : Addr) = some (.int .i64 cy) := fun w' h => by
    obtain ⟨a0, b0, _, _⟩ := ((((Blk.new_at w 32 #[.int .i64 ax, .int .i64 ay] (n := w.heap.size) (by simp)).alloc (.cells #[.int .i64 bx, .int .i64 bz] 32)).alloc (.cells #[.int .i64 cx, .int .i64 cy] 32)).kp h id).two
    obtain ⟨a1, b1, _, _⟩ := (((Blk.new_at (w.alloc (.cells #[.int .i64 ax, .int .i64 ay] 32)) 32 #[.int .i64 bx, .int .i64 bz] (n := w.heap.size + 1) (by simp)).alloc (.cells #[.int .i64 cx, .int .i64 cy] 32)).kp h id).two
    obtain ⟨a2, b2, _, _⟩ := ((Blk.new_at ((w.alloc (.cells #[.int .i64 ax, .int .i64 ay] 32)).alloc (.cells #[.int .i64 bx, .int .i64 bz] 32)) 32 #[.int .i64 cx, .int .i64 cy] (n := w.heap.size + 1 + 1) (by simp)).kp h id).two
    exact ⟨a0, b0, a1, b1, a2, b2⟩
  have HP := Lib.hid hP
  clear hP
  go_enter Try.func51, Try.ntmps51
  go_wp2_with fail
  go_region_held3 (fun w' : World => w'.cell? (⟨w.heap.size, 0, none⟩ : Addr) = some (.int .i64 ax) ∧ w'.cell? (⟨w.heap.size, 1, none⟩ : Addr) = some (.int .i64 ay) ∧ w'.cell? (⟨w.heap.size + 1, 0, none⟩ : Addr) = some (.int .i64 bx) ∧ w'.cell? (⟨w.heap.size + 1, 1, none⟩ : Addr) = some (.int .i64 bz) ∧ w'.cell? (⟨w.heap.size + 1 + 1, 0, none⟩ : Addr) = some (.int .i64 cx) ∧ w'.cell? (⟨w.heap.size + 1 + 1, 1, none⟩ : Addr) = some (.int .i64 cy))
    (first | exact HP.out _ (Kp.refl _ _) | exact HP.out _ (Kp.drew (Kp.refl _ _)) | exact HP.out _ (Kp.alloc (Kp.drew (Kp.refl _ _)) _) | exact HP.out _ (Kp.alloc (Kp.refl _ _) _) | exact HP.out _ hb | exact HP.out _ (Kp.alloc hb _) | fail)
    (first
      | (go_at_call 50; ((with_reducible refine (c1 _).mono ?_); rintro e x0 ⟨rfl, hk⟩; have hb : Nw (((w.alloc (.cells #[.int .i64 ax, .int .i64 ay] 32)).alloc (.cells #[.int .i64 bx, .int .i64 bz] 32)).alloc (.cells #[.int .i64 cx, .int .i64 cy] 32)) x0 := (Kp.drew (Kp.refl _ _)).tr hk))
      | (go_at_call 50; ((with_reducible refine (c2 _).mono ?_); rintro e x1 ⟨rfl, hk⟩; have hb : Nw (((w.alloc (.cells #[.int .i64 ax, .int .i64 ay] 32)).alloc (.cells #[.int .i64 bx, .int .i64 bz] 32)).alloc (.cells #[.int .i64 cx, .int .i64 cy] 32)) x1 := hb.tr hk))
      | (go_at_call 61; ((with_reducible refine (c3 _).mono ?_); rintro e x2 ⟨rfl, hk⟩; have hb : Nw (((w.alloc (.cells #[.int .i64 ax, .int .i64 ay] 32)).alloc (.cells #[.int .i64 bx, .int .i64 bz] 32)).alloc (.cells #[.int .i64 cx, .int .i64 cy] 32)) x2 := hb.tr hk))
      | (go_at_call 45; ((with_reducible refine (c4 _).mono ?_); rintro e x3 ⟨rfl, rfl⟩)))
  go_wp2
  go_ret
  exact ⟨rfl, (((nw_alloc _ _).alloc _).alloc _).tr hb⟩

set_option maxHeartbeats 3200000 in
theorem rturn_any (ax ay bx bz cx cy : Int) (w : World) : Calls Try.prog 26 #[vV ax ay, vV bx bz, vV cx cy] w fun e w' => e = .returned (.int .i64 (turnV ax ay bx bz cx cy)) ∧ Nw w w' := by
  have c1 := fun w1 => rsub_any bx bz ax ay w1
  have c2 := fun w1 => rsub_any cx cy ax ay w1
  have c3 := fun w1 => rcross_any (w64 (bx - ax)) (w64 (bz - ay)) (w64 (cx - ax)) (w64 (cy - ay)) w1
  have c4 := fun w1 => sign_any (crossV (w64 (bx - ax)) (w64 (bz - ay)) (w64 (cx - ax)) (w64 (cy - ay))) w1
  rw [turn_cross] at c4
  generalize turnV ax ay bx bz cx cy = r at *
  generalize crossV (w64 (bx - ax)) (w64 (bz - ay)) (w64 (cx - ax)) (w64 (cy - ay)) = s at *
  generalize w64 (bx - ax) = s1 at *
  generalize w64 (bz - ay) = s2 at *
  generalize w64 (cx - ax) = s3 at *
  generalize w64 (cy - ay) = s4 at *
  have hP : ∀ w' : World, Nw (((w.alloc (.cells #[.int .i64 ax, .int .i64 ay] 32)).alloc (.cells #[.int .i64 bx, .int .i64 bz] 32)).alloc (.cells #[.int .i64 cx, .int .i64 cy] 32)) w' → w'.cell? (⟨w.heap.size, 0, none⟩ : Addr) = some (.int .i64 ax) ∧ w'.cell? (⟨w.heap.size, 1, none⟩ : Addr) = some (.int .i64 ay) ∧ w'.cell? (⟨w.heap.size + 1, 0, none⟩ : Addr) = some (.int .i64 bx) ∧ w'.cell? (⟨w.heap.size + 1, 1, none⟩ : Addr) = some (.int .i64 bz) ∧ w'.cell? (⟨w.heap.size + 1 + 1, 0, none⟩ : Addr) = some (.int .i64 cx) ∧ w'.cell? (⟨w.heap.size + 1 + 1, 1, none⟩ : Addr) = some (.int .i64 cy) := fun w' h => by
    obtain ⟨a0, b0, _, _⟩ := ((((Blk.new_at w 32 #[.int .i64 ax, .int .i64 ay] (n := w.heap.size) (by simp)).alloc (.cells #[.int .i64 bx, .int .i64 bz] 32)).alloc (.cells #[.int .i64 cx, .int .i64 cy] 32)).kp h id).two
    obtain ⟨a1, b1, _, _⟩ := (((Blk.new_at (w.alloc (.cells #[.int .i64 ax, .int .i64 ay] 32)) 32 #[.int .i64 bx, .int .i64 bz] (n := w.heap.size + 1) (by simp)).alloc (.cells #[.int .i64 cx, .int .i64 cy] 32)).kp h id).two
    obtain ⟨a2, b2, _, _⟩ := ((Blk.new_at ((w.alloc (.cells #[.int .i64 ax, .int .i64 ay] 32)).alloc (.cells #[.int .i64 bx, .int .i64 bz] 32)) 32 #[.int .i64 cx, .int .i64 cy] (n := w.heap.size + 1 + 1) (by simp)).kp h id).two
    exact ⟨a0, b0, a1, b1, a2, b2⟩
  have HP := Lib.hid hP
  clear hP
  go_enter Try.func26, Try.ntmps26
  go_wp2_with fail
  go_region_held3 (fun w' : World => w'.cell? (⟨w.heap.size, 0, none⟩ : Addr) = some (.int .i64 ax) ∧ w'.cell? (⟨w.heap.size, 1, none⟩ : Addr) = some (.int .i64 ay) ∧ w'.cell? (⟨w.heap.size + 1, 0, none⟩ : Addr) = some (.int .i64 bx) ∧ w'.cell? (⟨w.heap.size + 1, 1, none⟩ : Addr) = some (.int .i64 bz) ∧ w'.cell? (⟨w.heap.size + 1 + 1, 0, none⟩ : Addr) = some (.int .i64 cx) ∧ w'.cell? (⟨w.heap.size + 1 + 1, 1, none⟩ : Addr) = some (.int .i64 cy))
    (first | exact HP.out _ (Kp.refl _ _) | exact HP.out _ (Kp.drew (Kp.refl _ _)) | exact HP.out _ (Kp.alloc (Kp.drew (Kp.refl _ _)) _) | exact HP.out _ (Kp.alloc (Kp.refl _ _) _) | exact HP.out _ hb | exact HP.out _ (Kp.alloc hb _) | fail)
    (first
      | (go_at_call 33; ((with_reducible refine (c1 _).mono ?_); rintro e x0 ⟨rfl, hk⟩; have hb : Nw (((w.alloc (.cells #[.int .i64 ax, .int .i64 ay] 32)).alloc (.cells #[.int .i64 bx, .int .i64 bz] 32)).alloc (.cells #[.int .i64 cx, .int .i64 cy] 32)) x0 := (Kp.drew (Kp.refl _ _)).tr hk))
      | (go_at_call 33; ((with_reducible refine (c2 _).mono ?_); rintro e x1 ⟨rfl, hk⟩; have hb : Nw (((w.alloc (.cells #[.int .i64 ax, .int .i64 ay] 32)).alloc (.cells #[.int .i64 bx, .int .i64 bz] 32)).alloc (.cells #[.int .i64 cx, .int .i64 cy] 32)) x1 := hb.tr hk))
      | (go_at_call 54; ((with_reducible refine (c3 _).mono ?_); rintro e x2 ⟨rfl, hk⟩; have hb : Nw (((w.alloc (.cells #[.int .i64 ax, .int .i64 ay] 32)).alloc (.cells #[.int .i64 bx, .int .i64 bz] 32)).alloc (.cells #[.int .i64 cx, .int .i64 cy] 32)) x2 := hb.tr hk))
      | (go_at_call 53; ((with_reducible refine (c4 _).mono ?_); rintro e x3 ⟨rfl, rfl⟩)))
  go_wp2
  go_ret
  exact ⟨rfl, (((nw_alloc _ _).alloc _).alloc _).tr hb⟩

end Go.Proofs.Ythbgapcplgigoaa.W

namespace Go.Proofs.Ythbgapcplgigoaa.W
open Go.RowKit Go.Proofs.Ythbgapcplgigoaa.V

abbrev bV (x y z t : Int) : Value := .agg #[.int .i64 x, .int .i64 y, .int .i64 z, .int .i64 t]

set_option maxHeartbeats 1600000 in
theorem within_any (ax ay m : Int) (w : World) : Calls Try.prog 42 #[vV ax ay, .int .i64 m] w fun e w' => e = .returned (.bool (withinV ax ay m)) ∧ Nw w w' := by
  unfold withinV
  obtain ⟨b0, h0⟩ : ∃ b, decide (w64 (-m) ≤ ax) = b := ⟨_, rfl⟩
  obtain ⟨b1, h1⟩ : ∃ b, decide (ax ≤ m) = b := ⟨_, rfl⟩
  obtain ⟨b2, h2⟩ : ∃ b, decide (w64 (-m) ≤ ay) = b := ⟨_, rfl⟩
  obtain ⟨b3, h3⟩ : ∃ b, decide (ay ≤ m) = b := ⟨_, rfl⟩
  rw [h0, h1, h2, h3]
  have h0 : decide (wrap64 (-m) ≤ ax) = b0 := h0
  have h2 : decide (wrap64 (-m) ≤ ay) = b2 := h2
  cases b0
  · clear h1 h2 h3
    go_enter Try.func42, Try.ntmps42
    go_wp2
    go_ret
    exact ⟨by simp, by repeat (first | exact Kp.refl _ _ | refine Kp.alloc ?_ _ | refine Kp.drew ?_ | refine Kp.drewN ?_ _)⟩
  · skip
    cases b1
    · clear h2 h3
      go_enter Try.func42, Try.ntmps42
      go_wp2
      go_ret
      exact ⟨by simp, by repeat (first | exact Kp.refl _ _ | refine Kp.alloc ?_ _ | refine Kp.drew ?_ | refine Kp.drewN ?_ _)⟩
    · skip
      cases b2
      · clear h3
        go_enter Try.func42, Try.ntmps42
        go_wp2
        go_ret
        exact ⟨by simp, by repeat (first | exact Kp.refl _ _ | refine Kp.alloc ?_ _ | refine Kp.drew ?_ | refine Kp.drewN ?_ _)⟩
      · skip
        cases b3
        · go_enter Try.func42, Try.ntmps42
          go_wp2
          go_ret
          exact ⟨by simp, by repeat (first | exact Kp.refl _ _ | refine Kp.alloc ?_ _ | refine Kp.drew ?_ | refine Kp.drewN ?_ _)⟩
        · go_enter Try.func42, Try.ntmps42
          go_wp2
          go_ret
          exact ⟨by simp, by repeat (first | exact Kp.refl _ _ | refine Kp.alloc ?_ _ | refine Kp.drew ?_ | refine Kp.drewN ?_ _)⟩

set_option maxHeartbeats 1600000 in
theorem rwithin_any (ax ay m : Int) (w : World) : Calls Try.prog 29 #[vV ax ay, .int .i64 m] w fun e w' => e = .returned (.bool (withinV ax ay m)) ∧ Nw w w' := by
  unfold withinV
  obtain ⟨b0, h0⟩ : ∃ b, decide (w64 (-m) ≤ ax) = b := ⟨_, rfl⟩
  obtain ⟨b1, h1⟩ : ∃ b, decide (ax ≤ m) = b := ⟨_, rfl⟩
  obtain ⟨b2, h2⟩ : ∃ b, decide (w64 (-m) ≤ ay) = b := ⟨_, rfl⟩
  obtain ⟨b3, h3⟩ : ∃ b, decide (ay ≤ m) = b := ⟨_, rfl⟩
  rw [h0, h1, h2, h3]
  have h0 : decide (ax ≥ wrap64 (-m)) = b0 := h0
  have h2 : decide (ay ≥ wrap64 (-m)) = b2 := h2
  cases b0
  · clear h1 h2 h3
    go_enter Try.func29, Try.ntmps29
    go_wp2
    go_ret
    exact ⟨by simp, by repeat (first | exact Kp.refl _ _ | refine Kp.alloc ?_ _ | refine Kp.drew ?_ | refine Kp.drewN ?_ _)⟩
  · skip
    cases b1
    · clear h2 h3
      go_enter Try.func29, Try.ntmps29
      go_wp2
      go_ret
      exact ⟨by simp, by repeat (first | exact Kp.refl _ _ | refine Kp.alloc ?_ _ | refine Kp.drew ?_ | refine Kp.drewN ?_ _)⟩
    · skip
      cases b2
      · clear h3
        go_enter Try.func29, Try.ntmps29
        go_wp2
        go_ret
        exact ⟨by simp, by repeat (first | exact Kp.refl _ _ | refine Kp.alloc ?_ _ | refine Kp.drew ?_ | refine Kp.drewN ?_ _)⟩
      · skip
        cases b3
        · go_enter Try.func29, Try.ntmps29
          go_wp2
          go_ret
          exact ⟨by simp, by repeat (first | exact Kp.refl _ _ | refine Kp.alloc ?_ _ | refine Kp.drew ?_ | refine Kp.drewN ?_ _)⟩
        · go_enter Try.func29, Try.ntmps29
          go_wp2
          go_ret
          exact ⟨by simp, by repeat (first | exact Kp.refl _ _ | refine Kp.alloc ?_ _ | refine Kp.drew ?_ | refine Kp.drewN ?_ _)⟩

end Go.Proofs.Ythbgapcplgigoaa.W

namespace Go.Proofs.Ythbgapcplgigoaa.W
open Go.RowKit Go.Proofs.Ythbgapcplgigoaa.V

abbrev vC (p : Int × Int) : List Value := [.int .i64 p.1, .int .i64 p.2]
/-- a slice that reads as these vectors -/
abbrev SrcV (w : World) (v : Value) (l : List (Int × Int)) : Prop := Src w 2 v l.length (l.flatMap vC)
theorem flatV_at : ∀ (l : List (Int × Int)) (k : Nat) (p : Int × Int), l[k]? = some p → (l.flatMap vC)[k * 2]? = some (.int .i64 p.1) ∧ (l.flatMap vC)[k * 2 + 1]? = some (.int .i64 p.2)
  | [], k, p, h => by simp at h
  | q :: r, 0, p, h => by
    obtain rfl : q = p := by simpa using h
    exact ⟨rfl, rfl⟩
  | q :: r, k + 1, p, h => by
    have hr := flatV_at r k p (by simpa using h)
    rw [List.flatMap_cons, show (k + 1) * 2 = k * 2 + 1 + 1 by omega]
    exact ⟨by simpa [vC] using hr.1, by simpa [vC] using hr.2⟩
theorem flatV_len (l : List (Int × Int)) : (l.flatMap vC).length = l.length * 2 := by
  induction l with
  | nil => rfl
  | cons x r ih => rw [List.flatMap_cons, List.length_append, ih, List.length_cons]; show 2 + r.length * 2 = (r.length + 1) * 2; omega
abbrev boxV (b : Int × Int × Int × Int) : Value := bV b.1 b.2.1 b.2.2.1 b.2.2.2
abbrev boxC (b : Int × Int × Int × Int) : Array Value := #[.int .i64 b.1, .int .i64 b.2.1, .int .i64 b.2.2.1, .int .i64 b.2.2.2]
theorem Blk.lay4a {w : World} {g : Nat} {t : TypeId} {a b c d : Value} (h : Blk w g t #[a, b, c, d]) (x y : Value) : Blk ((w.setCell ⟨g, 0, none⟩ x).setCell ⟨g, 1, none⟩ y) g t #[x, y, c, d] := (h.set_ 0 x).set_ 1 y
theorem Blk.lay4b {w : World} {g : Nat} {t : TypeId} {a b c d : Value} (h : Blk w g t #[a, b, c, d]) (x y : Value) : Blk ((w.setCell ⟨g, 2, none⟩ x).setCell ⟨g, 3, none⟩ y) g t #[a, b, x, y] := (h.set_ 2 x).set_ 3 y
theorem Blk.four {w : World} {g : Nat} {t : TypeId} {a b c d : Value} (h : Blk w g t #[a, b, c, d]) : w.cell? ⟨g, 0, none⟩ = some a ∧ w.cell? ⟨g, 1, none⟩ = some b ∧ w.cell? ⟨g, 2, none⟩ = some c ∧ w.cell? ⟨g, 3, none⟩ = some d ∧ w.frozen? ⟨g, 0, none⟩ = false ∧ w.frozen? ⟨g, 1, none⟩ = false ∧ w.frozen? ⟨g, 2, none⟩ = false ∧ w.frozen? ⟨g, 3, none⟩ = false :=
  ⟨h.cell 0, h.cell 1, h.cell 2, h.cell 3, h.frozen 0, h.frozen 1, h.frozen 2, h.frozen 3⟩

end Go.Proofs.Ythbgapcplgigoaa.W

namespace Go.Proofs.Ythbgapcplgigoaa.G
open Go.RowKit Go.Proofs.Ythbgapcplgigoaa.V Go.Proofs.Ythbgapcplgigoaa.W

abbrev Pt := Int × Int
abbrev Ed := Pt × Pt
def at_ (l : List Pt) (i : Nat) : Pt := l.getD i (0, 0)
theorem at_of {l : List Pt} {i : Nat} {p : Pt} (h : l[i]? = some p) : at_ l i = p := by unfold at_; rw [List.getD_eq_getElem?_getD, h]; rfl
theorem at_some {l : List Pt} {i : Nat} (h : i < l.length) : l[i]? = some (at_ l i) := by
  unfold at_
  rw [List.getD_eq_getElem?_getD, List.getElem?_eq_getElem h]
  rfl
theorem at_mem {l : List Pt} {i : Nat} (h : i < l.length) : at_ l i ∈ l := List.mem_of_getElem? (at_some h)
def turnP (a b c : Pt) : Int := turnV a.1 a.2 b.1 b.2 c.1 c.2
def crossP (a b : Pt) : Int := crossV a.1 a.2 b.1 b.2
def allTo (n : Nat) (p : Nat → Bool) : Bool := (List.range n).all p
theorem allTo_iff {n : Nat} {p : Nat → Bool} : allTo n p = true ↔ ∀ i, i < n → p i = true := by simp [allTo]
theorem allTo_not {n i : Nat} {p : Nat → Bool} (hi : i < n) (h : p i = false) : allTo n p = false := by
  rw [← Bool.not_eq_true, allTo_iff]
  intro hh
  rw [hh i hi] at h
  cases h
def turnI (l : List Pt) (i : Nat) : Int := turnP (at_ l ((i + l.length - 1) % l.length)) (at_ l i) (at_ l ((i + 1) % l.length))
def wOk (p : Pt) : Bool := withinV p.1 p.2 2000
def allW (l : List Pt) : Bool := allTo l.length fun i => wOk (at_ l i)
def turnsP (l : List Pt) : Bool := allTo l.length fun i => !(turnI l i == 0)
def areaTo (l : List Pt) : Nat → Int
  | 0 => 0
  | k + 1 => w64 (areaTo l k + crossP (at_ l k) (at_ l ((k + 1) % l.length)))
def areaP (l : List Pt) : Int := areaTo l l.length
def edgeP (l : List Pt) (i : Nat) : Ed := (at_ l i, at_ l ((i + 1) % l.length))
def edgesP (l : List Pt) : List Ed := if l.length < 2 then [] else (List.range l.length).map (edgeP l)
def apartE (e f : Ed) : Bool := decide (max e.1.1 e.2.1 < min f.1.1 f.2.1) || decide (max f.1.1 f.2.1 < min e.1.1 e.2.1) || decide (max e.1.2 e.2.2 < min f.1.2 f.2.2) || decide (max f.1.2 f.2.2 < min e.1.2 e.2.2)
theorem edges_len {l : List Pt} : (edgesP l).length = if l.length < 2 then 0 else l.length := by unfold edgesP; split <;> simp
theorem edges_at {l : List Pt} {i : Nat} (h2 : ¬ l.length < 2) (hi : i < l.length) : (edgesP l)[i]? = some (edgeP l i) := by
  unfold edgesP
  rw [if_neg h2, List.getElem?_map, List.getElem?_range hi]
  rfl
end Go.Proofs.Ythbgapcplgigoaa.G

namespace Go.Proofs.Ythbgapcplgigoaa.V
open Go.RowKit

def Sm (x y : Int) : Prop := -268435456 ≤ x ∧ x ≤ 268435456 ∧ -268435456 ≤ y ∧ y ≤ 268435456
theorem within_sm {x y : Int} (h : withinV x y 268435456 = true) : Sm x y := by
  unfold withinV at h
  rw [show w64 (-268435456) = -268435456 by rw [w64_eq]; omega] at h
  simp at h
  unfold Sm
  omega
theorem i64_w (n : Int) : IntKind.i64.wrap n = w64 n := by rw [IntKind.wrap_i64, w64_eq]
theorem turn_cyc (ax ay bx bz cx cy : Int) : turnV bx bz cx cy ax ay = turnV ax ay bx bz cx cy := by
  unfold turnV
  rw [show (cx - bx) * (ay - bz) - (cy - bz) * (ax - bx) = (bx - ax) * (cy - ay) - (bz - ay) * (cx - ax) by grind]
theorem turn_moved (ax ay bx bz cx cy vx vy : Int) : turnV (w64 (ax + vx)) (w64 (ay + vy)) (w64 (bx + vx)) (w64 (bz + vy)) (w64 (cx + vx)) (w64 (cy + vy)) = turnV ax ay bx bz cx cy := by
  rw [← turn_cross, ← turn_cross, w64_sub, w64_sub, w64_sub, w64_sub]
  rw [show bx + vx - (ax + vx) = bx - ax by omega, show bz + vy - (ay + vy) = bz - ay by omega, show cx + vx - (ax + vx) = cx - ax by omega, show cy + vy - (ay + vy) = cy - ay by omega]
theorem turn_same (ax ay bx bz : Int) : turnV ax ay bx bz bx bz = 0 := by
  unfold turnV
  rw [Int.mul_comm (bz - ay), Int.sub_self, w64_id ⟨by omega, by omega⟩]
  rfl
theorem abs_mul {x y : Int} (hx : x.natAbs ≤ 536870912) (hy : y.natAbs ≤ 536870912) : (x * y).natAbs ≤ 288230376151711744 := by
  rw [Int.natAbs_mul]
  exact Nat.mul_le_mul hx hy
theorem sgn_neg (n : Int) : sgn (-n) = -sgn n := by unfold sgn; grind
theorem turn_opp {ax ay bx bz cx cy : Int} (ha : Sm ax ay) (hb : Sm bx bz) (hc : Sm cx cy) : turnV ax ay cx cy bx bz = -turnV ax ay bx bz cx cy := by
  unfold Sm at ha hb hc
  unfold turnV
  have h1 := abs_mul (x := bx - ax) (y := cy - ay) (by omega) (by omega)
  have h2 := abs_mul (x := bz - ay) (y := cx - ax) (by omega) (by omega)
  rw [Int.mul_comm (cx - ax), Int.mul_comm (cy - ay)]
  generalize (bx - ax) * (cy - ay) = X at *
  generalize (bz - ay) * (cx - ax) = Y at *
  rw [w64_id ⟨by omega, by omega⟩, w64_id ⟨by omega, by omega⟩, ← sgn_neg]
  congr 1
  omega
theorem turn_range (ax ay bx bz cx cy : Int) : -1 ≤ turnV ax ay bx bz cx cy ∧ turnV ax ay bx bz cx cy ≤ 1 := by
  unfold turnV
  rcases sgn_cases (w64 ((bx - ax) * (cy - ay) - (bz - ay) * (cx - ax))) with ⟨_, e⟩ | ⟨_, e⟩ | ⟨_, e⟩ <;> omega
theorem cmp_opp (ax ay bx bz : Int) : cmpV bx bz ax ay = -cmpV ax ay bx bz := by
  rcases cmpV_cases ax ay bx bz with ⟨h, e⟩ | ⟨h, h', e⟩ | ⟨h, e⟩ <;> rcases cmpV_cases bx bz ax ay with ⟨g, f⟩ | ⟨g, g', f⟩ | ⟨g, f⟩ <;> omega
theorem cmp_moved {ax ay bx bz vx vy : Int} (ha : Sm ax ay) (hb : Sm bx bz) (hv : Sm vx vy) : cmpV (w64 (ax + vx)) (w64 (ay + vy)) (w64 (bx + vx)) (w64 (bz + vy)) = cmpV ax ay bx bz := by
  unfold Sm at ha hb hv
  rw [w64_id (n := ax + vx) ⟨by omega, by omega⟩, w64_id (n := ay + vy) ⟨by omega, by omega⟩, w64_id (n := bx + vx) ⟨by omega, by omega⟩, w64_id (n := bz + vy) ⟨by omega, by omega⟩]
  unfold cmpV
  rw [show ay + vy - (bz + vy) = ay - bz by omega, show ax + vx - (bx + vx) = ax - bx by omega]
theorem cmp_range (ax ay bx bz : Int) : -1 ≤ cmpV ax ay bx bz ∧ cmpV ax ay bx bz ≤ 1 := by
  rcases cmpV_cases ax ay bx bz with ⟨h, e⟩ | ⟨h, h', e⟩ | ⟨h, e⟩ <;> omega
theorem cmp_zero (ax ay bx bz : Int) : cmpV ax ay bx bz = 0 ↔ ax = bx ∧ ay = bz := by
  rcases cmpV_cases ax ay bx bz with ⟨h, e⟩ | ⟨h, h', e⟩ | ⟨h, e⟩ <;> omega
theorem cmp_trans {ax ay bx bz cx cy : Int} (h1 : cmpV ax ay bx bz ≤ 0) (h2 : cmpV bx bz cx cy ≤ 0) : cmpV ax ay cx cy ≤ 0 := by
  rcases cmpV_cases ax ay bx bz with ⟨h, e⟩ | ⟨h, h', e⟩ | ⟨h, e⟩ <;> rcases cmpV_cases bx bz cx cy with ⟨g, f⟩ | ⟨g, g', f⟩ | ⟨g, f⟩ <;> rcases cmpV_cases ax ay cx cy with ⟨k, l⟩ | ⟨k, k', l⟩ | ⟨k, l⟩ <;> omega
end Go.Proofs.Ythbgapcplgigoaa.V

namespace Go.Proofs.Ythbgapcplgigoaa.W
open Go.RowKit Go.Proofs.Ythbgapcplgigoaa.V

theorem mixed7 : Try.prog.follows .mixedOrders = true := by kernel_rfl
/-- a world in which everything that was there in w is unchanged -/
structure KeptW (w : World) where
  wd : World
  since : Nw w wd
instance (w : World) : Inhabited (KeptW w) := ⟨⟨w, Kp.refl _ w⟩⟩
theorem wp_region_kept {P : Program} {id : Nat} {Q : Exit → Act → World → Prop} {a : Act} {w0 w : World} {l : List Oper} (h0 : Nw w0 w) (hm : P.follows .mixedOrders = true) (hB : Region.lexB .any l.toArray = true)
    (h : wpQuiet P l.toArray (fun w' => ∃ p : KeptW w0, w' = p.wd) (fun a' => ∀ w', (∃ p : KeptW w0, w' = p.wd) → Q .normal a' w') l a) : (Code.region id l.toArray true).wp P Q a w :=
  wp_region_quiet (C := fun w' => ∃ p : KeptW w0, w' = p.wd) hm hB ⟨⟨w.drew, h0.drew⟩, rfl⟩ (by simpa using h)
section
variable {P : Program} {f : FuncId} {args : Array Value} {w : World} {p : KeptW w} {v : Value}
theorem Calls.kept_of (h : Calls P f args p.wd fun e w' => e = .returned v ∧ Nw p.wd w') : Calls P f args p.wd fun e w'' => e = .returned v ∧ ∃ q : KeptW w, w'' = q.wd :=
  h.mono fun _ _ ⟨he, hn⟩ => ⟨he, ⟨_, p.since.tr hn⟩, rfl⟩
theorem Calls.kept_same (h : Calls P f args p.wd fun e w' => e = .returned v ∧ p.wd = w') : Calls P f args p.wd fun e w'' => e = .returned v ∧ ∃ q : KeptW w, w'' = q.wd :=
  h.mono fun _ _ ⟨he, hn⟩ => ⟨he, p, hn.symm⟩
theorem Calls.kept_first (h : Calls P f args w fun e w' => e = .returned v ∧ Nw w w') : Calls P f args w fun e w'' => e = .returned v ∧ ∃ q : KeptW w, w'' = q.wd :=
  h.mono fun _ _ ⟨he, hn⟩ => ⟨he, ⟨_, hn⟩, rfl⟩
end
theorem Blk.kept {w : World} {g : Nat} {t : TypeId} {cs : Array Value} (h : Blk w g t cs) (p : KeptW w) : Blk p.wd g t cs := h.kp p.since id

abbrev sV (ax ay bx bz : Int) : Value := .agg #[.int .i64 ax, .int .i64 ay, .int .i64 bx, .int .i64 bz]
abbrev pV (x y d : Int) : Value := .agg #[.int .i64 x, .int .i64 y, .int .i64 d]
end Go.Proofs.Ythbgapcplgigoaa.W

namespace Go.Proofs.Ythbgapcplgigoaa.W
open Go.RowKit Go.Proofs.Ythbgapcplgigoaa.V Go.Proofs.Ythbgapcplgigoaa.G

abbrev SrcN (w : World) (A : Option Addr) (n c : Nat) (l : List (Int × Int)) : Prop := Src w 2 (.slice A n c) n (l.flatMap vC)
theorem src_n {w : World} {A : Option Addr} {n c : Nat} {l : List (Int × Int)} (h : SrcV w (.slice A l.length c) l) (hn : l.length = n) : SrcN w A n c l := by subst hn; exact h
theorem src_v {w : World} {A : Option Addr} {n c : Nat} {l : List (Int × Int)} (h : SrcN w A n c l) (hn : l.length = n) : SrcV w (.slice A n c) l := by subst hn; exact h
theorem src_max {w : World} {A : Option Addr} {n c : Nat} {l : List (Int × Int)} (h : SrcN w A n c l) : n ≤ c ∧ c ≤ 9223372036854775807 ∧ c ≤ maxLen := by
  obtain ⟨_, A', c', e, h1, h2, _⟩ := h
  injection e with _ _ e3
  subst e3
  exact ⟨h1, by unfold maxLen at h2; omega, h2⟩
theorem src_len {w : World} {A : Option Addr} {n c : Nat} {l : List (Int × Int)} (h : SrcN w A n c l) : l.length = n := by
  have := h.1
  rw [flatV_len] at this
  omega
/-- where a list's elements lie, in all later worlds -/
theorem src_at {w : World} {A : Option Addr} {n c : Nat} {l : List (Int × Int)} (h : SrcN w A n c l) (hn : 0 < n) :
    ∃ g o, A = some ⟨g, o, none⟩ ∧ g < w.heap.size ∧ ∀ w', Nw w w' → ∀ k, k < n → w'.cell? ⟨g, o + k * 2, none⟩ = some (.int .i64 (at_ l k).1) ∧ w'.cell? ⟨g, o + k * 2 + 1, none⟩ = some (.int .i64 (at_ l k).2) := by
  have hl := src_len h
  obtain ⟨_, A', c', e, _, _, hc⟩ := h
  injection e with e1 e2 e3
  subst e1
  obtain ⟨g, o, rfl, hg, hc⟩ := hc (by omega)
  refine ⟨g, o, rfl, hg, fun w' hk k hkn => ?_⟩
  obtain ⟨f1, f2⟩ := flatV_at l k _ (at_some (by omega))
  exact ⟨(hk.cell (p := ⟨g, o + k * 2, none⟩) hg id).trans (hc _ _ f1), (hk.cell (p := ⟨g, o + (k * 2 + 1), none⟩) hg id).trans (hc _ _ f2)⟩
theorem wrapI (n : Int) : IntKind.i64.wrap n = w64 n := by
  rw [IntKind.wrap_i64, w64_eq]
theorem tmod_nat (a b : Nat) : Int.tmod (a : Int) (b : Int) = ((a % b : Nat) : Int) := by
  rw [Int.tmod_eq_emod_of_nonneg (by omega)]
  omega
end Go.Proofs.Ythbgapcplgigoaa.W
