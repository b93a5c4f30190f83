/-
  vec, plain: wrapped arithmetic of vectors, their order, the norm, the turn; no program. No condition.
  vec and its reference: what each function of numbers and vectors returns. No condition but that of Within's least number, where it says so.
  vec and its reference: comparing, the norm, the turn, boxes: what each function returns. No condition.
  vec and its reference: order, norm, turn, boxes: what each function returns. No condition.
-/
import Derived.Test.YtlogihcmmoldkaaK03
import Derived.BigQuiet
import Derived.Sort.Grow
import Derived.Deep.RegionHeld3
import Derived.Deep.CutRange
namespace Go.Proofs.Ytlogihcmmoldkaa.V
open Go.RowKit

def I64 (n : Int) : Prop := -9223372036854775808 ≤ n ∧ n ≤ 9223372036854775807
def w64 (n : Int) : Int := wrap64 n
theorem w64_def (n : Int) : wrap64 n = w64 n := rfl
theorem w64_eq (n : Int) : w64 n = (n + 9223372036854775808) % 18446744073709551616 - 9223372036854775808 := by
  unfold w64 wrap64
  omega
theorem w64_id {n : Int} (h : I64 n) : w64 n = n := by
  obtain ⟨h1, h2⟩ := h
  rw [w64_eq]
  omega
theorem w64_i64 (n : Int) : I64 (w64 n) := by
  rw [w64_eq]
  exact ⟨by omega, by omega⟩
theorem w64_off (n : Int) : ∃ k : Int, w64 n = n + 18446744073709551616 * k := ⟨-((n + 9223372036854775808) / 18446744073709551616), by rw [w64_eq]; omega⟩
theorem w64_more (n k : Int) : w64 (n + 18446744073709551616 * k) = w64 n := by
  rw [w64_eq, w64_eq]
  omega
theorem w64_of {a b k : Int} (h : a = b + 18446744073709551616 * k) : w64 a = w64 b := by rw [h, w64_more]
theorem w64_add (a b : Int) : w64 (w64 a + w64 b) = w64 (a + b) := by
  obtain ⟨k, hk⟩ := w64_off a
  obtain ⟨l, hl⟩ := w64_off b
  rw [hk, hl]
  exact w64_of (k := k + l) (by rw [Int.mul_add]; omega)
theorem w64_sub (a b : Int) : w64 (w64 a - w64 b) = w64 (a - b) := by
  obtain ⟨k, hk⟩ := w64_off a
  obtain ⟨l, hl⟩ := w64_off b
  rw [hk, hl]
  exact w64_of (k := k - l) (by rw [Int.mul_sub]; omega)
theorem w64_neg (a : Int) : w64 (-w64 a) = w64 (-a) := by
  obtain ⟨k, hk⟩ := w64_off a
  rw [hk]
  exact w64_of (k := -k) (by rw [Int.mul_neg]; omega)
theorem w64_mul (a b : Int) : w64 (w64 a * w64 b) = w64 (a * b) := by
  obtain ⟨k, hk⟩ := w64_off a
  obtain ⟨l, hl⟩ := w64_off b
  rw [hk, hl]
  exact w64_of (k := k * b + a * l + 18446744073709551616 * (k * l)) (by grind)
theorem w64_w (a : Int) : w64 (w64 a) = w64 a := w64_id (w64_i64 a)
theorem w64_addl (a b : Int) : w64 (w64 a + b) = w64 (a + b) := by
  obtain ⟨k, hk⟩ := w64_off a
  rw [hk]
  exact w64_of (k := k) (by omega)
theorem w64_addr (a b : Int) : w64 (a + w64 b) = w64 (a + b) := by rw [Int.add_comm, w64_addl, Int.add_comm]
theorem w64_subl (a b : Int) : w64 (w64 a - b) = w64 (a - b) := by
  obtain ⟨k, hk⟩ := w64_off a
  rw [hk]
  exact w64_of (k := k) (by omega)
theorem w64_subr (a b : Int) : w64 (a - w64 b) = w64 (a - b) := by
  obtain ⟨k, hk⟩ := w64_off b
  rw [hk]
  exact w64_of (k := -k) (by rw [Int.mul_neg]; omega)
theorem w64_mull (a b : Int) : w64 (w64 a * b) = w64 (a * b) := by
  obtain ⟨k, hk⟩ := w64_off a
  rw [hk]
  exact w64_of (k := k * b) (by grind)
theorem w64_mulr (a b : Int) : w64 (a * w64 b) = w64 (a * b) := by rw [Int.mul_comm, w64_mull, Int.mul_comm]

def sgn (n : Int) : Int := if n < 0 then -1 else if n = 0 then 0 else 1
def dotV (ax ay bx bz : Int) : Int := w64 (ax * bx + ay * bz)
def crossV (ax ay bx bz : Int) : Int := w64 (ax * bz - ay * bx)
def turnV (ax ay bx bz cx cy : Int) : Int := sgn (w64 ((bx - ax) * (cy - ay) - (bz - ay) * (cx - ax)))
def cmpV (ax ay bx bz : Int) : Int := if sgn (ay - bz) ≠ 0 then sgn (ay - bz) else sgn (ax - bx)
def lessV (ax ay bx bz : Int) : Bool := decide (ay < bz) || (decide (ay = bz) && decide (ax < bx))
def absV (n : Int) : Int := if 0 ≤ n then n else w64 (-n)
def normV (x y : Int) : Int := if absV x ≤ absV y then absV y else absV x
def withinV (x y m : Int) : Bool := decide (w64 (-m) ≤ x) && decide (x ≤ m) && decide (w64 (-m) ≤ y) && decide (y ≤ m)
def inBoxV (lx ly hx hy x y : Int) : Bool := decide (lx ≤ x) && decide (x ≤ hx) && decide (ly ≤ y) && decide (y ≤ hy)
theorem sgn_cases (n : Int) : n < 0 ∧ sgn n = -1 ∨ n = 0 ∧ sgn n = 0 ∨ 0 < n ∧ sgn n = 1 := by
  unfold sgn
  grind
theorem cmpV_cases (ax ay bx bz : Int) : (ay < bz ∨ ay = bz ∧ ax < bx) ∧ cmpV ax ay bx bz = -1 ∨ ax = bx ∧ ay = bz ∧ cmpV ax ay bx bz = 0 ∨ (bz < ay ∨ ay = bz ∧ bx < ax) ∧ cmpV ax ay bx bz = 1 := by
  unfold cmpV
  rcases sgn_cases (ay - bz) with ⟨h, e⟩ | ⟨h, e⟩ | ⟨h, e⟩ <;> rcases sgn_cases (ax - bx) with ⟨h', e'⟩ | ⟨h', e'⟩ | ⟨h', e'⟩ <;> simp [e, e'] <;> omega
theorem less_cmp (ax ay bx bz : Int) : lessV ax ay bx bz = decide (cmpV ax ay bx bz < 0) := by
  unfold lessV
  rcases cmpV_cases ax ay bx bz with ⟨h, e⟩ | ⟨h, h', e⟩ | ⟨h, e⟩ <;> rw [e] <;> simp <;> omega
theorem turn_cross (ax ay bx bz cx cy : Int) : sgn (crossV (w64 (bx - ax)) (w64 (bz - ay)) (w64 (cx - ax)) (w64 (cy - ay))) = turnV ax ay bx bz cx cy := by
  unfold crossV turnV
  congr 1
  rw [← w64_sub, w64_mul, w64_mul, w64_sub]
theorem dot_way (ax ay bx bz : Int) : w64 (w64 (ax * bx) + w64 (ay * bz)) = dotV ax ay bx bz := w64_add _ _
theorem cross_way (ax ay bx bz : Int) : w64 (w64 (ax * bz) - w64 (ay * bx)) = crossV ax ay bx bz := w64_sub _ _

def minV (a b : Int) : Int := if b < a then b else a
def maxV (a b : Int) : Int := if b > a then b else a
def boxStep (b : Int × Int × Int × Int) (p : Int × Int) : Int × Int × Int × Int := (minV b.1 p.1, minV b.2.1 p.2, maxV b.2.2.1 p.1, maxV b.2.2.2 p.2)
def boxOf : List (Int × Int) → (Int × Int × Int × Int) × Bool
  | [] => ((0, 0, 0, 0), false)
  | p :: r => ((p :: r).foldl boxStep (p.1, p.2, p.1, p.2), true)
end Go.Proofs.Ytlogihcmmoldkaa.V

namespace Go.Proofs.Ytlogihcmmoldkaa.W
open Go.RowKit Go.Proofs.Ytlogihcmmoldkaa.V

abbrev vV (x y : Int) : Value := .agg #[.int .i64 x, .int .i64 y]
theorem nw_drewN (w : World) (n : Nat) : Nw w (w.drewN n) := (Kp.refl _ w).drewN n
theorem nw_alloc (w : World) (o : Obj) : Nw w (w.alloc o) := (Kp.refl _ w).alloc o

set_option maxHeartbeats 800000 in
theorem add_any (ax ay bx bz : Int) (w : World) : Calls Try.prog 29 #[vV ax ay, vV bx bz] w fun e w' => e = .returned (vV (w64 (ax + bx)) (w64 (ay + bz))) ∧ Nw w w' := by
  go_enter Try.func29, Try.ntmps29
  go_wp2
  exact bodyPost_ret (v := vV (w64 (ax + bx)) (w64 (ay + bz))) (by simp [results, Try.results29, go_sem]; exact ⟨rfl, rfl⟩) rfl ⟨rfl, by repeat (first | exact Kp.refl _ _ | refine Kp.alloc ?_ _ | refine Kp.drew ?_ | refine Kp.drewN ?_ _)⟩

set_option maxHeartbeats 800000 in
theorem sub_any (ax ay bx bz : Int) (w : World) : Calls Try.prog 26 #[vV ax ay, vV bx bz] w fun e w' => e = .returned (vV (w64 (ax - bx)) (w64 (ay - bz))) ∧ Nw w w' := by
  go_enter Try.func26, Try.ntmps26
  go_wp2
  exact bodyPost_ret (v := vV (w64 (ax - bx)) (w64 (ay - bz))) (by simp [results, Try.results26, go_sem]; exact ⟨rfl, rfl⟩) rfl ⟨rfl, by repeat (first | exact Kp.refl _ _ | refine Kp.alloc ?_ _ | refine Kp.drew ?_ | refine Kp.drewN ?_ _)⟩

set_option maxHeartbeats 800000 in
theorem dot_any (ax ay bx bz : Int) (w : World) : Calls Try.prog 32 #[vV ax ay, vV bx bz] w fun e w' => e = .returned (.int .i64 (dotV ax ay bx bz)) ∧ Nw w w' := by
  rw [← dot_way]
  go_enter Try.func32, Try.ntmps32
  go_wp2
  go_ret
  exact ⟨rfl, by repeat (first | exact Kp.refl _ _ | refine Kp.alloc ?_ _ | refine Kp.drew ?_ | refine Kp.drewN ?_ _)⟩

set_option maxHeartbeats 800000 in
theorem cross_any (ax ay bx bz : Int) (w : World) : Calls Try.prog 59 #[vV ax ay, vV bx bz] w fun e w' => e = .returned (.int .i64 (crossV ax ay bx bz)) ∧ Nw w w' := by
  rw [← cross_way]
  go_enter Try.func59, Try.ntmps59
  go_wp2
  go_ret
  exact ⟨rfl, by repeat (first | exact Kp.refl _ _ | refine Kp.alloc ?_ _ | refine Kp.drew ?_ | refine Kp.drewN ?_ _)⟩

set_option maxHeartbeats 800000 in
theorem radd_any (ax ay bx bz : Int) (w : World) : Calls Try.prog 25 #[vV ax ay, vV bx bz] w fun e w' => e = .returned (vV (w64 (ax + bx)) (w64 (ay + bz))) ∧ Nw w w' := by
  go_enter Try.func25, Try.ntmps25
  go_wp2
  exact bodyPost_ret (v := vV (w64 (ax + bx)) (w64 (ay + bz))) (by simp [results, Try.results25, go_sem]; exact ⟨rfl, rfl⟩) rfl ⟨rfl, by repeat (first | exact Kp.refl _ _ | refine Kp.alloc ?_ _ | refine Kp.drew ?_ | refine Kp.drewN ?_ _)⟩

set_option maxHeartbeats 800000 in
theorem rsub_any (ax ay bx bz : Int) (w : World) : Calls Try.prog 20 #[vV ax ay, vV bx bz] w fun e w' => e = .returned (vV (w64 (ax - bx)) (w64 (ay - bz))) ∧ Nw w w' := by
  go_enter Try.func20, Try.ntmps20
  go_wp2
  exact bodyPost_ret (v := vV (w64 (ax - bx)) (w64 (ay - bz))) (by simp [results, Try.results20, go_sem]; exact ⟨rfl, rfl⟩) rfl ⟨rfl, by repeat (first | exact Kp.refl _ _ | refine Kp.alloc ?_ _ | refine Kp.drew ?_ | refine Kp.drewN ?_ _)⟩

set_option maxHeartbeats 800000 in
theorem rdot_any (ax ay bx bz : Int) (w : World) : Calls Try.prog 21 #[vV ax ay, vV bx bz] w fun e w' => e = .returned (.int .i64 (dotV ax ay bx bz)) ∧ Nw w w' := by
  rw [← dot_way]
  go_enter Try.func21, Try.ntmps21
  go_wp2
  go_ret
  exact ⟨rfl, by repeat (first | exact Kp.refl _ _ | refine Kp.alloc ?_ _ | refine Kp.drew ?_ | refine Kp.drewN ?_ _)⟩

set_option maxHeartbeats 800000 in
theorem rcross_any (ax ay bx bz : Int) (w : World) : Calls Try.prog 23 #[vV ax ay, vV bx bz] w fun e w' => e = .returned (.int .i64 (crossV ax ay bx bz)) ∧ Nw w w' := by
  rw [← cross_way]
  go_enter Try.func23, Try.ntmps23
  go_wp2
  go_ret
  exact ⟨rfl, by repeat (first | exact Kp.refl _ _ | refine Kp.alloc ?_ _ | refine Kp.drew ?_ | refine Kp.drewN ?_ _)⟩

end Go.Proofs.Ytlogihcmmoldkaa.W

namespace Go.Proofs.Ytlogihcmmoldkaa.W
open Go.RowKit Go.Proofs.Ytlogihcmmoldkaa.V

theorem isNaN_any (x : Int) (w : World) : Calls Try.prog 87 #[.int .i64 x] w fun e w' => e = .returned (.bool false) ∧ w = w' := by
  go_enter Try.func87, Try.ntmps87
  go_wp2
  go_ret
  exact ⟨by simp, rfl⟩
theorem compareInt_any (x y : Int) (w : World) : Calls Try.prog 80 #[.int .i64 x, .int .i64 y] w fun e w' => e = .returned (.int .i64 (sgn (x - y))) ∧ w = w' := by
  have hs : sgn (x - y) = if x < y then -1 else if x = y then 0 else 1 := by unfold sgn; grind
  rcases Int.lt_trichotomy x y with h | h | h
  · rw [hs, if_pos h]
    have e1 : decide (x < y) = true := decide_eq_true (by omega)
    clear hs
    go_enter Try.func80, Try.ntmps80
    go_wp2_with (go_at_call 87; refine (isNaN_any _ _).mono ?_; rintro e w1 ⟨rfl, rfl⟩)
    go_ret
    exact ⟨rfl, rfl⟩
  · subst h
    rw [hs, if_neg (Int.lt_irrefl x), if_pos rfl]
    clear hs
    have e1 : decide (x < x) = false := decide_eq_false (by omega)
    have e2 : decide (x > x) = false := decide_eq_false (by omega)
    go_enter Try.func80, Try.ntmps80
    go_wp2_with (go_at_call 87; refine (isNaN_any _ _).mono ?_; rintro e w1 ⟨rfl, rfl⟩)
    go_ret
    exact ⟨rfl, rfl⟩
  · rw [hs, if_neg (by omega), if_neg (by omega)]
    have e1 : decide (x < y) = false := decide_eq_false (by omega)
    have e2 : decide (x > y) = true := decide_eq_true (by omega)
    clear hs
    go_enter Try.func80, Try.ntmps80
    go_wp2_with (go_at_call 87; refine (isNaN_any _ _).mono ?_; rintro e w1 ⟨rfl, rfl⟩)
    go_ret
    exact ⟨rfl, rfl⟩

set_option maxHeartbeats 1600000 in
theorem or_any (g : Nat) (x y : Int) (w : World) (h0 : w.cell? ⟨g, 0, none⟩ = some (.int .i64 x)) (h1 : w.cell? ⟨g, 1, none⟩ = some (.int .i64 y)) : Calls Try.prog 79 #[.slice (some ⟨g, 0, none⟩) 2 2] w fun e w' => e = .returned (.int .i64 (if x ≠ 0 then x else y)) ∧ w = w' := by
  go_enter Try.func79, Try.ntmps79
  go_wp2
  go_loopw [8] (fun i wr => ∃ k : Nat, i = .int .i64 k ∧ k ≤ 2 ∧ (1 ≤ k → x = 0) ∧ (2 ≤ k → y = 0) ∧ wr = w) (fun i _ => 2 - (intOf i).toNat)
  case atStart => exact ⟨0, rfl, by omega, by omega, by omega, rfl⟩
  case round =>
    obtain ⟨k, rfl, hk, hx, hy, rfl⟩ := hrel
    obtain rfl | rfl | rfl : k = 0 ∨ k = 1 ∨ k = 2 := by omega
    · clear hk hx hy
      by_cases hx : x = 0
      · subst hx
        go_wp2
        go_roundw
        case rel => exact ⟨1, by simp⟩
        case measure => simp [intOf]
      · have e1 : (x != 0) = true := by simp [hx]
        go_wp2
        go_ret
        exact ⟨rfl, rfl⟩
    · obtain rfl := hx (by omega)
      clear hk hx hy
      by_cases hy : y = 0
      · subst hy
        go_wp2
        go_roundw
        case rel => exact ⟨2, by simp⟩
        case measure => simp [intOf]
      · have e1 : (y != 0) = true := by simp [hy]
        clear hy
        go_wp2
        go_ret
        exact ⟨by simp, rfl⟩
    · obtain rfl := hx (by omega)
      obtain rfl := hy (by omega)
      clear hk hx hy
      go_wp2
      go_ret
      exact ⟨by simp, rfl⟩

set_option maxHeartbeats 1600000 in
theorem compare_any (ax ay bx bz : Int) (w : World) : Calls Try.prog 68 #[vV ax ay, vV bx bz] w fun e w' => e = .returned (.int .i64 (cmpV ax ay bx bz)) ∧ ∃ q os, w' = Sort.grow (w.drewN q) os := by
  have c1 := fun w1 => compareInt_any ay bz w1
  have c2 := fun w1 => compareInt_any ax bx w1
  unfold cmpV
  generalize sgn (ay - bz) = s at *
  generalize sgn (ax - bx) = t at *
  have hO := fun g w3 h0 h1 => or_any g s t w3 h0 h1
  generalize (if s ≠ 0 then s else t) = r at *
  go_enter Try.func68, Try.ntmps68
  have hP : ∀ w' : World, Nw ((w.alloc (.cells #[.int .i64 ax, .int .i64 ay] 23)).alloc (.cells #[.int .i64 bx, .int .i64 bz] 23)) w' → w'.cell? (⟨w.heap.size, 0, none⟩ : Addr) = some (.int .i64 ax) ∧ w'.cell? (⟨w.heap.size, 1, none⟩ : Addr) = some (.int .i64 ay) ∧ w'.cell? (⟨w.heap.size + 1, 0, none⟩ : Addr) = some (.int .i64 bx) ∧ w'.cell? (⟨w.heap.size + 1, 1, none⟩ : Addr) = some (.int .i64 bz) := fun w' h => by
    obtain ⟨a, b, _, _⟩ := (((Blk.new w 23 #[.int .i64 ax, .int .i64 ay]).alloc (.cells #[.int .i64 bx, .int .i64 bz] 23)).kp h id).two
    obtain ⟨c, d, _, _⟩ := ((Blk.new_at (w.alloc (.cells #[.int .i64 ax, .int .i64 ay] 23)) 23 #[.int .i64 bx, .int .i64 bz] (n := w.heap.size + 1) (by simp)).kp h id).two
    exact ⟨a, b, c, d⟩
  have HN := Lib.hid (show _ ∧ _ from ⟨(Blk.new_at ((w.alloc (.cells #[.int .i64 ax, .int .i64 ay] 23)).alloc (.cells #[.int .i64 bx, .int .i64 bz] 23)) 3 #[.int .i64 s, .int .i64 t] (n := w.heap.size + 1 + 1) (by simp)).drew.cell 0, (Blk.new_at ((w.alloc (.cells #[.int .i64 ax, .int .i64 ay] 23)).alloc (.cells #[.int .i64 bx, .int .i64 bz] 23)) 3 #[.int .i64 s, .int .i64 t] (n := w.heap.size + 1 + 1) (by simp)).drew.cell 1⟩)
  have HP := Lib.hid hP
  clear hP
  go_wp2_with fail
  go_region_held3 (fun w' : World => w'.cell? (⟨w.heap.size, 0, none⟩ : Addr) = some (.int .i64 ax) ∧ w'.cell? (⟨w.heap.size, 1, none⟩ : Addr) = some (.int .i64 ay) ∧ w'.cell? (⟨w.heap.size + 1, 0, none⟩ : Addr) = some (.int .i64 bx) ∧ w'.cell? (⟨w.heap.size + 1, 1, none⟩ : Addr) = some (.int .i64 bz))
    (first | exact HP.out _ (Kp.refl _ _) | exact HP.out _ (Kp.drew (Kp.refl _ _)) | exact HP.out _ (Kp.alloc (Kp.drew (Kp.refl _ _)) _) | exact HP.out _ (Kp.alloc (Kp.refl _ _) _) | fail)
    (first
      | (go_at_call 80; ((with_reducible refine (c1 _).mono ?_); rintro e w4 ⟨rfl, rfl⟩))
      | (go_at_call 80; ((with_reducible refine (c2 _).mono ?_); rintro e w5 ⟨rfl, rfl⟩))
      | (go_at_call 79; ((refine (hO _ _ (HN.out.1) (HN.out.2)).mono ?_); rintro e w6 ⟨rfl, rfl⟩)))
  go_wp2
  go_ret
  exact ⟨rfl, 1, #[.cells #[.int .i64 ax, .int .i64 ay] 23, .cells #[.int .i64 bx, .int .i64 bz] 23, .cells #[.int .i64 s, .int .i64 t] 3], by rw [Sort.alloc_eq_grow, Sort.alloc_eq_grow, Sort.alloc_eq_grow, Sort.grow_grow, Sort.grow_grow]; rfl⟩
end Go.Proofs.Ytlogihcmmoldkaa.W

namespace Go.Proofs.Ytlogihcmmoldkaa.W
open Go.RowKit Go.Proofs.Ytlogihcmmoldkaa.V

theorem nw_grow (w : World) (os : Array Obj) : Nw w (Sort.grow w os) := ⟨rfl, rfl, rfl, by simp, fun i hi _ => Sort.heap_grow_old w os hi⟩
theorem nw_grown {w w' : World} (h : ∃ q os, w' = Sort.grow (w.drewN q) os) : Nw w w' := by
  obtain ⟨q, os, rfl⟩ := h
  exact (nw_drewN w q).tr (nw_grow _ os)
theorem compare_nw (ax ay bx bz : Int) (w : World) : Calls Try.prog 68 #[vV ax ay, vV bx bz] w fun e w' => e = .returned (.int .i64 (cmpV ax ay bx bz)) ∧ Nw w w' :=
  (compare_any ax ay bx bz w).mono fun _ _ h => ⟨h.1, nw_grown h.2⟩

theorem less_any (ax ay bx bz : Int) (w : World) : Calls Try.prog 94 #[vV ax ay, vV bx bz] w fun e w' => e = .returned (.bool (lessV ax ay bx bz)) ∧ Nw w w' := by
  have hc := fun w1 => compare_nw ax ay bx bz w1
  rw [less_cmp]
  generalize cmpV ax ay bx bz = r at *
  go_enter Try.func94, Try.ntmps94
  go_wp2_with (go_at_call 68; refine (hc _).mono ?_; rintro e w1 ⟨rfl, hk⟩)
  go_ret
  exact ⟨rfl, ((nw_alloc _ _).alloc _).tr hk⟩

theorem rless_any (ax ay bx bz : Int) (w : World) : Calls Try.prog 73 #[vV ax ay, vV bx bz] w fun e w' => e = .returned (.bool (lessV ax ay bx bz)) ∧ Nw w w' := by
  unfold lessV
  by_cases h1 : ay < bz
  · have e1 : decide (ay < bz) = true := decide_eq_true h1
    rw [e1]
    clear h1
    go_enter Try.func73, Try.ntmps73
    go_wp2
    go_ret
    exact ⟨by simp, by repeat (first | exact Kp.refl _ _ | refine Kp.alloc ?_ _ | refine Kp.drew ?_ | refine Kp.drewN ?_ _)⟩
  · have e1 : decide (ay < bz) = false := decide_eq_false h1
    rw [e1]
    clear h1
    by_cases h2 : ay = bz
    · subst h2
      clear e1
      have e1 : decide (ay < ay) = false := by simp
      go_enter Try.func73, Try.ntmps73
      go_wp2
      go_ret
      exact ⟨by simp, by repeat (first | exact Kp.refl _ _ | refine Kp.alloc ?_ _ | refine Kp.drew ?_ | refine Kp.drewN ?_ _)⟩
    · have e2 : (ay == bz) = false := by simp [h2]
      rw [decide_eq_false h2]
      clear h2
      go_enter Try.func73, Try.ntmps73
      go_wp2
      go_ret
      exact ⟨by simp, by repeat (first | exact Kp.refl _ _ | refine Kp.alloc ?_ _ | refine Kp.drew ?_ | refine Kp.drewN ?_ _)⟩

theorem sign_any (n : Int) (w : World) : Calls Try.prog 82 #[.int .i64 n] w fun e w' => e = .returned (.int .i64 (sgn n)) ∧ w = w' := by
  rcases sgn_cases n with ⟨h, e⟩ | ⟨h, e⟩ | ⟨h, e⟩ <;> rw [e] <;> clear e
  · have e1 : decide (n > 0) = false := decide_eq_false (by omega)
    have e2 : decide (n < 0) = true := decide_eq_true h
    clear h
    go_enter Try.func82, Try.ntmps82
    go_wp2
    go_ret
    exact ⟨rfl, rfl⟩
  · subst h
    go_enter Try.func82, Try.ntmps82
    go_wp2
    go_ret
    exact ⟨rfl, rfl⟩
  · have e1 : decide (n > 0) = true := decide_eq_true h
    clear h
    go_enter Try.func82, Try.ntmps82
    go_wp2
    go_ret
    exact ⟨rfl, rfl⟩

set_option maxHeartbeats 3200000 in
theorem turn_any (ax ay bx bz cx cy : Int) (w : World) : Calls Try.prog 75 #[vV ax ay, vV bx bz, vV cx cy] w fun e w' => e = .returned (.int .i64 (turnV ax ay bx bz cx cy)) ∧ Nw w w' := by
  have c1 := fun w1 => sub_any bx bz ax ay w1
  have c2 := fun w1 => sub_any cx cy ax ay w1
  have c3 := fun w1 => cross_any (w64 (bx - ax)) (w64 (bz - ay)) (w64 (cx - ax)) (w64 (cy - ay)) w1
  have c4 := fun w1 => compareInt_any (crossV (w64 (bx - ax)) (w64 (bz - ay)) (w64 (cx - ax)) (w64 (cy - ay))) 0 w1
  rw [Int.sub_zero] at c4
  rw [turn_cross] at c4
  generalize turnV ax ay bx bz cx cy = r at *
  generalize crossV (w64 (bx - ax)) (w64 (bz - ay)) (w64 (cx - ax)) (w64 (cy - ay)) = s at *
  generalize w64 (bx - ax) = s1 at *
  generalize w64 (bz - ay) = s2 at *
  generalize w64 (cx - ax) = s3 at *
  generalize w64 (cy - ay) = s4 at *
  have hP : ∀ w' : World, Nw (((w.alloc (.cells #[.int .i64 ax, .int .i64 ay] 23)).alloc (.cells #[.int .i64 bx, .int .i64 bz] 23)).alloc (.cells #[.int .i64 cx, .int .i64 cy] 23)) w' → w'.cell? (⟨w.heap.size, 0, none⟩ : Addr) = some (.int .i64 ax) ∧ w'.cell? (⟨w.heap.size, 1, none⟩ : Addr) = some (.int .i64 ay) ∧ w'.cell? (⟨w.heap.size + 1, 0, none⟩ : Addr) = some (.int .i64 bx) ∧ w'.cell? (⟨w.heap.size + 1, 1, none⟩ : Addr) = some (.int .i64 bz) ∧ w'.cell? (⟨w.heap.size + 1 + 1, 0, none⟩ : Addr) = some (.int .i64 cx) ∧ w'.cell? (⟨w.heap.size + 1 + 1, 1, none⟩ : Addr) = some (.int .i64 cy) := fun w' h => by
    obtain ⟨a0, b0, _, _⟩ := ((((Blk.new_at w 23 #[.int .i64 ax, .int .i64 ay] (n := w.heap.size) (by simp)).alloc (.cells #[.int .i64 bx, .int .i64 bz] 23)).alloc (.cells #[.int .i64 cx, .int .i64 cy] 23)).kp h id).two
    obtain ⟨a1, b1, _, _⟩ := (((Blk.new_at (w.alloc (.cells #[.int .i64 ax, .int .i64 ay] 23)) 23 #[.int .i64 bx, .int .i64 bz] (n := w.heap.size + 1) (by simp)).alloc (.cells #[.int .i64 cx, .int .i64 cy] 23)).kp h id).two
    obtain ⟨a2, b2, _, _⟩ := ((Blk.new_at ((w.alloc (.cells #[.int .i64 ax, .int .i64 ay] 23)).alloc (.cells #[.int .i64 bx, .int .i64 bz] 23)) 23 #[.int .i64 cx, .int .i64 cy] (n := w.heap.size + 1 + 1) (by simp)).kp h id).two
    exact ⟨a0, b0, a1, b1, a2, b2⟩
  have HP := Lib.hid hP
  clear hP
  go_enter Try.func75, Try.ntmps75
  go_wp2_with fail
  go_region_held3 (fun w' : World => w'.cell? (⟨w.heap.size, 0, none⟩ : Addr) = some (.int .i64 ax) ∧ w'.cell? (⟨w.heap.size, 1, none⟩ : Addr) = some (.int .i64 ay) ∧ w'.cell? (⟨w.heap.size + 1, 0, none⟩ : Addr) = some (.int .i64 bx) ∧ w'.cell? (⟨w.heap.size + 1, 1, none⟩ : Addr) = some (.int .i64 bz) ∧ w'.cell? (⟨w.heap.size + 1 + 1, 0, none⟩ : Addr) = some (.int .i64 cx) ∧ w'.cell? (⟨w.heap.size + 1 + 1, 1, none⟩ : Addr) = some (.int .i64 cy))
    (first | exact HP.out _ (Kp.refl _ _) | exact HP.out _ (Kp.drew (Kp.refl _ _)) | exact HP.out _ (Kp.alloc (Kp.drew (Kp.refl _ _)) _) | exact HP.out _ (Kp.alloc (Kp.refl _ _) _) | exact HP.out _ hb | exact HP.out _ (Kp.alloc hb _) | fail)
    (first
      | (go_at_call 26; ((with_reducible refine (c1 _).mono ?_); rintro e x0 ⟨rfl, hk⟩; have hb : Nw (((w.alloc (.cells #[.int .i64 ax, .int .i64 ay] 23)).alloc (.cells #[.int .i64 bx, .int .i64 bz] 23)).alloc (.cells #[.int .i64 cx, .int .i64 cy] 23)) x0 := (Kp.drew (Kp.refl _ _)).tr hk))
      | (go_at_call 26; ((with_reducible refine (c2 _).mono ?_); rintro e x1 ⟨rfl, hk⟩; have hb : Nw (((w.alloc (.cells #[.int .i64 ax, .int .i64 ay] 23)).alloc (.cells #[.int .i64 bx, .int .i64 bz] 23)).alloc (.cells #[.int .i64 cx, .int .i64 cy] 23)) x1 := hb.tr hk))
      | (go_at_call 59; ((with_reducible refine (c3 _).mono ?_); rintro e x2 ⟨rfl, hk⟩; have hb : Nw (((w.alloc (.cells #[.int .i64 ax, .int .i64 ay] 23)).alloc (.cells #[.int .i64 bx, .int .i64 bz] 23)).alloc (.cells #[.int .i64 cx, .int .i64 cy] 23)) x2 := hb.tr hk))
      | (go_at_call 80; ((with_reducible refine (c4 _).mono ?_); rintro e x3 ⟨rfl, rfl⟩)))
  go_wp2
  go_ret
  exact ⟨rfl, (((nw_alloc _ _).alloc _).alloc _).tr hb⟩

set_option maxHeartbeats 3200000 in
theorem rturn_any (ax ay bx bz cx cy : Int) (w : World) : Calls Try.prog 70 #[vV ax ay, vV bx bz, vV cx cy] w fun e w' => e = .returned (.int .i64 (turnV ax ay bx bz cx cy)) ∧ Nw w w' := by
  have c1 := fun w1 => rsub_any bx bz ax ay w1
  have c2 := fun w1 => rsub_any cx cy ax ay w1
  have c3 := fun w1 => rcross_any (w64 (bx - ax)) (w64 (bz - ay)) (w64 (cx - ax)) (w64 (cy - ay)) w1
  have c4 := fun w1 => sign_any (crossV (w64 (bx - ax)) (w64 (bz - ay)) (w64 (cx - ax)) (w64 (cy - ay))) w1
  rw [turn_cross] at c4
  generalize turnV ax ay bx bz cx cy = r at *
  generalize crossV (w64 (bx - ax)) (w64 (bz - ay)) (w64 (cx - ax)) (w64 (cy - ay)) = s at *
  generalize w64 (bx - ax) = s1 at *
  generalize w64 (bz - ay) = s2 at *
  generalize w64 (cx - ax) = s3 at *
  generalize w64 (cy - ay) = s4 at *
  have hP : ∀ w' : World, Nw (((w.alloc (.cells #[.int .i64 ax, .int .i64 ay] 23)).alloc (.cells #[.int .i64 bx, .int .i64 bz] 23)).alloc (.cells #[.int .i64 cx, .int .i64 cy] 23)) w' → w'.cell? (⟨w.heap.size, 0, none⟩ : Addr) = some (.int .i64 ax) ∧ w'.cell? (⟨w.heap.size, 1, none⟩ : Addr) = some (.int .i64 ay) ∧ w'.cell? (⟨w.heap.size + 1, 0, none⟩ : Addr) = some (.int .i64 bx) ∧ w'.cell? (⟨w.heap.size + 1, 1, none⟩ : Addr) = some (.int .i64 bz) ∧ w'.cell? (⟨w.heap.size + 1 + 1, 0, none⟩ : Addr) = some (.int .i64 cx) ∧ w'.cell? (⟨w.heap.size + 1 + 1, 1, none⟩ : Addr) = some (.int .i64 cy) := fun w' h => by
    obtain ⟨a0, b0, _, _⟩ := ((((Blk.new_at w 23 #[.int .i64 ax, .int .i64 ay] (n := w.heap.size) (by simp)).alloc (.cells #[.int .i64 bx, .int .i64 bz] 23)).alloc (.cells #[.int .i64 cx, .int .i64 cy] 23)).kp h id).two
    obtain ⟨a1, b1, _, _⟩ := (((Blk.new_at (w.alloc (.cells #[.int .i64 ax, .int .i64 ay] 23)) 23 #[.int .i64 bx, .int .i64 bz] (n := w.heap.size + 1) (by simp)).alloc (.cells #[.int .i64 cx, .int .i64 cy] 23)).kp h id).two
    obtain ⟨a2, b2, _, _⟩ := ((Blk.new_at ((w.alloc (.cells #[.int .i64 ax, .int .i64 ay] 23)).alloc (.cells #[.int .i64 bx, .int .i64 bz] 23)) 23 #[.int .i64 cx, .int .i64 cy] (n := w.heap.size + 1 + 1) (by simp)).kp h id).two
    exact ⟨a0, b0, a1, b1, a2, b2⟩
  have HP := Lib.hid hP
  clear hP
  go_enter Try.func70, Try.ntmps70
  go_wp2_with fail
  go_region_held3 (fun w' : World => w'.cell? (⟨w.heap.size, 0, none⟩ : Addr) = some (.int .i64 ax) ∧ w'.cell? (⟨w.heap.size, 1, none⟩ : Addr) = some (.int .i64 ay) ∧ w'.cell? (⟨w.heap.size + 1, 0, none⟩ : Addr) = some (.int .i64 bx) ∧ w'.cell? (⟨w.heap.size + 1, 1, none⟩ : Addr) = some (.int .i64 bz) ∧ w'.cell? (⟨w.heap.size + 1 + 1, 0, none⟩ : Addr) = some (.int .i64 cx) ∧ w'.cell? (⟨w.heap.size + 1 + 1, 1, none⟩ : Addr) = some (.int .i64 cy))
    (first | exact HP.out _ (Kp.refl _ _) | exact HP.out _ (Kp.drew (Kp.refl _ _)) | exact HP.out _ (Kp.alloc (Kp.drew (Kp.refl _ _)) _) | exact HP.out _ (Kp.alloc (Kp.refl _ _) _) | exact HP.out _ hb | exact HP.out _ (Kp.alloc hb _) | fail)
    (first
      | (go_at_call 20; ((with_reducible refine (c1 _).mono ?_); rintro e x0 ⟨rfl, hk⟩; have hb : Nw (((w.alloc (.cells #[.int .i64 ax, .int .i64 ay] 23)).alloc (.cells #[.int .i64 bx, .int .i64 bz] 23)).alloc (.cells #[.int .i64 cx, .int .i64 cy] 23)) x0 := (Kp.drew (Kp.refl _ _)).tr hk))
      | (go_at_call 20; ((with_reducible refine (c2 _).mono ?_); rintro e x1 ⟨rfl, hk⟩; have hb : Nw (((w.alloc (.cells #[.int .i64 ax, .int .i64 ay] 23)).alloc (.cells #[.int .i64 bx, .int .i64 bz] 23)).alloc (.cells #[.int .i64 cx, .int .i64 cy] 23)) x1 := hb.tr hk))
      | (go_at_call 23; ((with_reducible refine (c3 _).mono ?_); rintro e x2 ⟨rfl, hk⟩; have hb : Nw (((w.alloc (.cells #[.int .i64 ax, .int .i64 ay] 23)).alloc (.cells #[.int .i64 bx, .int .i64 bz] 23)).alloc (.cells #[.int .i64 cx, .int .i64 cy] 23)) x2 := hb.tr hk))
      | (go_at_call 82; ((with_reducible refine (c4 _).mono ?_); rintro e x3 ⟨rfl, rfl⟩)))
  go_wp2
  go_ret
  exact ⟨rfl, (((nw_alloc _ _).alloc _).alloc _).tr hb⟩

end Go.Proofs.Ytlogihcmmoldkaa.W
