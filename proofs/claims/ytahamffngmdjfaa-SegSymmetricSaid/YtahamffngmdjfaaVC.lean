/-
  vec and its reference: comparing, the norm, the turn, boxes: what each function returns. No condition.
-/
import Derived.Test.YtahamffngmdjfaaVW
import Derived.BigQuiet
import Derived.Sort.Grow
import Derived.Deep.RegionHeld3
import Derived.Deep.CutRange
namespace Go.Proofs.Ytahamffngmdjfaa.W
open Go.RowKit Go.Proofs.Ytahamffngmdjfaa.V

theorem isNaN_any (x : Int) (w : World) : Calls Try.prog 137 #[.int .i64 x] w fun e w' => e = .returned (.bool false) ∧ w = w' := by
  go_enter Try.func137, Try.ntmps137
  go_wp2
  go_ret
  exact ⟨by simp, rfl⟩
theorem compareInt_any (x y : Int) (w : World) : Calls Try.prog 95 #[.int .i64 x, .int .i64 y] w fun e w' => e = .returned (.int .i64 (sgn (x - y))) ∧ w = w' := by
  have hs : sgn (x - y) = if x < y then -1 else if x = y then 0 else 1 := by unfold sgn; grind
  rcases Int.lt_trichotomy x y with h | h | h
  · rw [hs, if_pos h]
    have e1 : decide (x < y) = true := decide_eq_true (by omega)
    clear hs
    go_enter Try.func95, Try.ntmps95
    go_wp2_with (go_at_call 137; refine (isNaN_any _ _).mono ?_; rintro e w1 ⟨rfl, rfl⟩)
    go_ret
    exact ⟨rfl, rfl⟩
  · subst h
    rw [hs, if_neg (Int.lt_irrefl x), if_pos rfl]
    clear hs
    have e1 : decide (x < x) = false := decide_eq_false (by omega)
    have e2 : decide (x > x) = false := decide_eq_false (by omega)
    go_enter Try.func95, Try.ntmps95
    go_wp2_with (go_at_call 137; refine (isNaN_any _ _).mono ?_; rintro e w1 ⟨rfl, rfl⟩)
    go_ret
    exact ⟨rfl, rfl⟩
  · rw [hs, if_neg (by omega), if_neg (by omega)]
    have e1 : decide (x < y) = false := decide_eq_false (by omega)
    have e2 : decide (x > y) = true := decide_eq_true (by omega)
    clear hs
    go_enter Try.func95, Try.ntmps95
    go_wp2_with (go_at_call 137; refine (isNaN_any _ _).mono ?_; rintro e w1 ⟨rfl, rfl⟩)
    go_ret
    exact ⟨rfl, rfl⟩

set_option maxHeartbeats 1600000 in
theorem or_any (g : Nat) (x y : Int) (w : World) (h0 : w.cell? ⟨g, 0, none⟩ = some (.int .i64 x)) (h1 : w.cell? ⟨g, 1, none⟩ = some (.int .i64 y)) : Calls Try.prog 97 #[.slice (some ⟨g, 0, none⟩) 2 2] w fun e w' => e = .returned (.int .i64 (if x ≠ 0 then x else y)) ∧ w = w' := by
  go_enter Try.func97, Try.ntmps97
  go_wp2
  go_loopw [8] (fun i wr => ∃ k : Nat, i = .int .i64 k ∧ k ≤ 2 ∧ (1 ≤ k → x = 0) ∧ (2 ≤ k → y = 0) ∧ wr = w) (fun i _ => 2 - (intOf i).toNat)
  case atStart => exact ⟨0, rfl, by omega, by omega, by omega, rfl⟩
  case round =>
    obtain ⟨k, rfl, hk, hx, hy, rfl⟩ := hrel
    obtain rfl | rfl | rfl : k = 0 ∨ k = 1 ∨ k = 2 := by omega
    · clear hk hx hy
      by_cases hx : x = 0
      · subst hx
        go_wp2
        go_roundw
        case rel => exact ⟨1, by simp⟩
        case measure => simp [intOf]
      · have e1 : (x != 0) = true := by simp [hx]
        go_wp2
        go_ret
        exact ⟨rfl, rfl⟩
    · obtain rfl := hx (by omega)
      clear hk hx hy
      by_cases hy : y = 0
      · subst hy
        go_wp2
        go_roundw
        case rel => exact ⟨2, by simp⟩
        case measure => simp [intOf]
      · have e1 : (y != 0) = true := by simp [hy]
        clear hy
        go_wp2
        go_ret
        exact ⟨by simp, rfl⟩
    · obtain rfl := hx (by omega)
      obtain rfl := hy (by omega)
      clear hk hx hy
      go_wp2
      go_ret
      exact ⟨by simp, rfl⟩

set_option maxHeartbeats 1600000 in
theorem compare_any (ax ay bx bz : Int) (w : World) : Calls Try.prog 38 #[vV ax ay, vV bx bz] w fun e w' => e = .returned (.int .i64 (cmpV ax ay bx bz)) ∧ ∃ q os, w' = Sort.grow (w.drewN q) os := by
  have c1 := fun w1 => compareInt_any ay bz w1
  have c2 := fun w1 => compareInt_any ax bx w1
  unfold cmpV
  generalize sgn (ay - bz) = s at *
  generalize sgn (ax - bx) = t at *
  have hO := fun g w3 h0 h1 => or_any g s t w3 h0 h1
  generalize (if s ≠ 0 then s else t) = r at *
  go_enter Try.func38, Try.ntmps38
  have hP : ∀ w' : World, Nw ((w.alloc (.cells #[.int .i64 ax, .int .i64 ay] 23)).alloc (.cells #[.int .i64 bx, .int .i64 bz] 23)) w' → w'.cell? (⟨w.heap.size, 0, none⟩ : Addr) = some (.int .i64 ax) ∧ w'.cell? (⟨w.heap.size, 1, none⟩ : Addr) = some (.int .i64 ay) ∧ w'.cell? (⟨w.heap.size + 1, 0, none⟩ : Addr) = some (.int .i64 bx) ∧ w'.cell? (⟨w.heap.size + 1, 1, none⟩ : Addr) = some (.int .i64 bz) := fun w' h => by
    obtain ⟨a, b, _, _⟩ := (((Blk.new w 23 #[.int .i64 ax, .int .i64 ay]).alloc (.cells #[.int .i64 bx, .int .i64 bz] 23)).kp h id).two
    obtain ⟨c, d, _, _⟩ := ((Blk.new_at (w.alloc (.cells #[.int .i64 ax, .int .i64 ay] 23)) 23 #[.int .i64 bx, .int .i64 bz] (n := w.heap.size + 1) (by simp)).kp h id).two
    exact ⟨a, b, c, d⟩
  have HN := Lib.hid (show _ ∧ _ from ⟨(Blk.new_at ((w.alloc (.cells #[.int .i64 ax, .int .i64 ay] 23)).alloc (.cells #[.int .i64 bx, .int .i64 bz] 23)) 3 #[.int .i64 s, .int .i64 t] (n := w.heap.size + 1 + 1) (by simp)).drew.cell 0, (Blk.new_at ((w.alloc (.cells #[.int .i64 ax, .int .i64 ay] 23)).alloc (.cells #[.int .i64 bx, .int .i64 bz] 23)) 3 #[.int .i64 s, .int .i64 t] (n := w.heap.size + 1 + 1) (by simp)).drew.cell 1⟩)
  have HP := Lib.hid hP
  clear hP
  go_wp2_with fail
  go_region_held3 (fun w' : World => w'.cell? (⟨w.heap.size, 0, none⟩ : Addr) = some (.int .i64 ax) ∧ w'.cell? (⟨w.heap.size, 1, none⟩ : Addr) = some (.int .i64 ay) ∧ w'.cell? (⟨w.heap.size + 1, 0, none⟩ : Addr) = some (.int .i64 bx) ∧ w'.cell? (⟨w.heap.size + 1, 1, none⟩ : Addr) = some (.int .i64 bz))
    (first | exact HP.out _ (Kp.refl _ _) | exact HP.out _ (Kp.drew (Kp.refl _ _)) | exact HP.out _ (Kp.alloc (Kp.drew (Kp.refl _ _)) _) | exact HP.out _ (Kp.alloc (Kp.refl _ _) _) | fail)
    (first
      | (go_at_call 95; ((with_reducible refine (c1 _).mono ?_); rintro e w4 ⟨rfl, rfl⟩))
      | (go_at_call 95; ((with_reducible refine (c2 _).mono ?_); rintro e w5 ⟨rfl, rfl⟩))
      | (go_at_call 97; ((refine (hO _ _ (HN.out.1) (HN.out.2)).mono ?_); rintro e w6 ⟨rfl, rfl⟩)))
  go_wp2
  go_ret
  exact ⟨rfl, 1, #[.cells #[.int .i64 ax, .int .i64 ay] 23, .cells #[.int .i64 bx, .int .i64 bz] 23, .cells #[.int .i64 s, .int .i64 t] 3], by rw [Sort.alloc_eq_grow, Sort.alloc_eq_grow, Sort.alloc_eq_grow, Sort.grow_grow, Sort.grow_grow]; rfl⟩
end Go.Proofs.Ytahamffngmdjfaa.W
