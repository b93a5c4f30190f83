/-
  vec and its reference: Compare of the reference, Within, InBox: what each function returns. No condition.
  Lists of vectors and boxes in memory. No condition.
  vec, plain: the turn and the order of small vectors; no program. Condition: the coordinates are within 2^28 where it says so.
  Regions that draw their order, whose operations only read and whose callees leave all old blocks alone: one walk. No condition.
  A guard that looks at an operation that was not carried out. No condition.
  arc: two vectors in boxes of their own, and other words on worlds. No condition.
  arc: Root of the program and of the reference: each returns the greatest integer whose square is at most its argument. Condition: the argument is an int.
-/
import Derived.Test.YtlogihcmmoldkaaK04
import Derived.Deep.QuietTactic
import Derived.Shelf.SlSortCmp.QuietGrown
import Derived.Deep.RegionHeld3
import Derived.Deep.CutRange
import Derived.Test.YtlogihcmmoldkaaK01
import Derived.Test.YtlogihcmmoldkaaLayA
namespace Go.Proofs.Ytlogihcmmoldkaa.W
open Go.RowKit Go.Proofs.Ytlogihcmmoldkaa.V

abbrev bV (x y z t : Int) : Value := .agg #[.int .i64 x, .int .i64 y, .int .i64 z, .int .i64 t]

set_option maxHeartbeats 1600000 in
theorem within_any (ax ay m : Int) (w : World) : Calls Try.prog 31 #[vV ax ay, .int .i64 m] w fun e w' => e = .returned (.bool (withinV ax ay m)) ∧ Nw w w' := by
  unfold withinV
  obtain ⟨b0, h0⟩ : ∃ b, decide (w64 (-m) ≤ ax) = b := ⟨_, rfl⟩
  obtain ⟨b1, h1⟩ : ∃ b, decide (ax ≤ m) = b := ⟨_, rfl⟩
  obtain ⟨b2, h2⟩ : ∃ b, decide (w64 (-m) ≤ ay) = b := ⟨_, rfl⟩
  obtain ⟨b3, h3⟩ : ∃ b, decide (ay ≤ m) = b := ⟨_, rfl⟩
  rw [h0, h1, h2, h3]
  have h0 : decide (wrap64 (-m) ≤ ax) = b0 := h0
  have h2 : decide (wrap64 (-m) ≤ ay) = b2 := h2
  cases b0
  · clear h1 h2 h3
    go_enter Try.func31, Try.ntmps31
    go_wp2
    go_ret
    exact ⟨by simp, by repeat (first | exact Kp.refl _ _ | refine Kp.alloc ?_ _ | refine Kp.drew ?_ | refine Kp.drewN ?_ _)⟩
  · skip
    cases b1
    · clear h2 h3
      go_enter Try.func31, Try.ntmps31
      go_wp2
      go_ret
      exact ⟨by simp, by repeat (first | exact Kp.refl _ _ | refine Kp.alloc ?_ _ | refine Kp.drew ?_ | refine Kp.drewN ?_ _)⟩
    · skip
      cases b2
      · clear h3
        go_enter Try.func31, Try.ntmps31
        go_wp2
        go_ret
        exact ⟨by simp, by repeat (first | exact Kp.refl _ _ | refine Kp.alloc ?_ _ | refine Kp.drew ?_ | refine Kp.drewN ?_ _)⟩
      · skip
        cases b3
        · go_enter Try.func31, Try.ntmps31
          go_wp2
          go_ret
          exact ⟨by simp, by repeat (first | exact Kp.refl _ _ | refine Kp.alloc ?_ _ | refine Kp.drew ?_ | refine Kp.drewN ?_ _)⟩
        · go_enter Try.func31, Try.ntmps31
          go_wp2
          go_ret
          exact ⟨by simp, by repeat (first | exact Kp.refl _ _ | refine Kp.alloc ?_ _ | refine Kp.drew ?_ | refine Kp.drewN ?_ _)⟩

set_option maxHeartbeats 1600000 in
theorem rwithin_any (ax ay m : Int) (w : World) : Calls Try.prog 24 #[vV ax ay, .int .i64 m] w fun e w' => e = .returned (.bool (withinV ax ay m)) ∧ Nw w w' := by
  unfold withinV
  obtain ⟨b0, h0⟩ : ∃ b, decide (w64 (-m) ≤ ax) = b := ⟨_, rfl⟩
  obtain ⟨b1, h1⟩ : ∃ b, decide (ax ≤ m) = b := ⟨_, rfl⟩
  obtain ⟨b2, h2⟩ : ∃ b, decide (w64 (-m) ≤ ay) = b := ⟨_, rfl⟩
  obtain ⟨b3, h3⟩ : ∃ b, decide (ay ≤ m) = b := ⟨_, rfl⟩
  rw [h0, h1, h2, h3]
  have h0 : decide (ax ≥ wrap64 (-m)) = b0 := h0
  have h2 : decide (ay ≥ wrap64 (-m)) = b2 := h2
  cases b0
  · clear h1 h2 h3
    go_enter Try.func24, Try.ntmps24
    go_wp2
    go_ret
    exact ⟨by simp, by repeat (first | exact Kp.refl _ _ | refine Kp.alloc ?_ _ | refine Kp.drew ?_ | refine Kp.drewN ?_ _)⟩
  · skip
    cases b1
    · clear h2 h3
      go_enter Try.func24, Try.ntmps24
      go_wp2
      go_ret
      exact ⟨by simp, by repeat (first | exact Kp.refl _ _ | refine Kp.alloc ?_ _ | refine Kp.drew ?_ | refine Kp.drewN ?_ _)⟩
    · skip
      cases b2
      · clear h3
        go_enter Try.func24, Try.ntmps24
        go_wp2
        go_ret
        exact ⟨by simp, by repeat (first | exact Kp.refl _ _ | refine Kp.alloc ?_ _ | refine Kp.drew ?_ | refine Kp.drewN ?_ _)⟩
      · skip
        cases b3
        · go_enter Try.func24, Try.ntmps24
          go_wp2
          go_ret
          exact ⟨by simp, by repeat (first | exact Kp.refl _ _ | refine Kp.alloc ?_ _ | refine Kp.drew ?_ | refine Kp.drewN ?_ _)⟩
        · go_enter Try.func24, Try.ntmps24
          go_wp2
          go_ret
          exact ⟨by simp, by repeat (first | exact Kp.refl _ _ | refine Kp.alloc ?_ _ | refine Kp.drew ?_ | refine Kp.drewN ?_ _)⟩

end Go.Proofs.Ytlogihcmmoldkaa.W

namespace Go.Proofs.Ytlogihcmmoldkaa.W
open Go.RowKit Go.Proofs.Ytlogihcmmoldkaa.V

abbrev vC (p : Int × Int) : List Value := [.int .i64 p.1, .int .i64 p.2]
/-- a slice that reads as these vectors -/
abbrev SrcV (w : World) (v : Value) (l : List (Int × Int)) : Prop := Src w 2 v l.length (l.flatMap vC)
theorem flatV_at : ∀ (l : List (Int × Int)) (k : Nat) (p : Int × Int), l[k]? = some p → (l.flatMap vC)[k * 2]? = some (.int .i64 p.1) ∧ (l.flatMap vC)[k * 2 + 1]? = some (.int .i64 p.2)
  | [], k, p, h => by simp at h
  | q :: r, 0, p, h => by
    obtain rfl : q = p := by simpa using h
    exact ⟨rfl, rfl⟩
  | q :: r, k + 1, p, h => by
    have hr := flatV_at r k p (by simpa using h)
    rw [List.flatMap_cons, show (k + 1) * 2 = k * 2 + 1 + 1 by omega]
    exact ⟨by simpa [vC] using hr.1, by simpa [vC] using hr.2⟩
theorem flatV_len (l : List (Int × Int)) : (l.flatMap vC).length = l.length * 2 := by
  induction l with
  | nil => rfl
  | cons x r ih => rw [List.flatMap_cons, List.length_append, ih, List.length_cons]; show 2 + r.length * 2 = (r.length + 1) * 2; omega
abbrev boxV (b : Int × Int × Int × Int) : Value := bV b.1 b.2.1 b.2.2.1 b.2.2.2
abbrev boxC (b : Int × Int × Int × Int) : Array Value := #[.int .i64 b.1, .int .i64 b.2.1, .int .i64 b.2.2.1, .int .i64 b.2.2.2]
theorem Blk.lay4a {w : World} {g : Nat} {t : TypeId} {a b c d : Value} (h : Blk w g t #[a, b, c, d]) (x y : Value) : Blk ((w.setCell ⟨g, 0, none⟩ x).setCell ⟨g, 1, none⟩ y) g t #[x, y, c, d] := (h.set_ 0 x).set_ 1 y
theorem Blk.lay4b {w : World} {g : Nat} {t : TypeId} {a b c d : Value} (h : Blk w g t #[a, b, c, d]) (x y : Value) : Blk ((w.setCell ⟨g, 2, none⟩ x).setCell ⟨g, 3, none⟩ y) g t #[a, b, x, y] := (h.set_ 2 x).set_ 3 y
theorem Blk.four {w : World} {g : Nat} {t : TypeId} {a b c d : Value} (h : Blk w g t #[a, b, c, d]) : w.cell? ⟨g, 0, none⟩ = some a ∧ w.cell? ⟨g, 1, none⟩ = some b ∧ w.cell? ⟨g, 2, none⟩ = some c ∧ w.cell? ⟨g, 3, none⟩ = some d ∧ w.frozen? ⟨g, 0, none⟩ = false ∧ w.frozen? ⟨g, 1, none⟩ = false ∧ w.frozen? ⟨g, 2, none⟩ = false ∧ w.frozen? ⟨g, 3, none⟩ = false :=
  ⟨h.cell 0, h.cell 1, h.cell 2, h.cell 3, h.frozen 0, h.frozen 1, h.frozen 2, h.frozen 3⟩

end Go.Proofs.Ytlogihcmmoldkaa.W

namespace Go.Proofs.Ytlogihcmmoldkaa.V
open Go.RowKit

def Sm (x y : Int) : Prop := -268435456 ≤ x ∧ x ≤ 268435456 ∧ -268435456 ≤ y ∧ y ≤ 268435456
theorem within_sm {x y : Int} (h : withinV x y 268435456 = true) : Sm x y := by
  unfold withinV at h
  rw [show w64 (-268435456) = -268435456 by rw [w64_eq]; omega] at h
  simp at h
  unfold Sm
  omega
theorem i64_w (n : Int) : IntKind.i64.wrap n = w64 n := by rw [IntKind.wrap_i64, w64_eq]
theorem turn_cyc (ax ay bx bz cx cy : Int) : turnV bx bz cx cy ax ay = turnV ax ay bx bz cx cy := by
  unfold turnV
  rw [show (cx - bx) * (ay - bz) - (cy - bz) * (ax - bx) = (bx - ax) * (cy - ay) - (bz - ay) * (cx - ax) by grind]
theorem turn_moved (ax ay bx bz cx cy vx vy : Int) : turnV (w64 (ax + vx)) (w64 (ay + vy)) (w64 (bx + vx)) (w64 (bz + vy)) (w64 (cx + vx)) (w64 (cy + vy)) = turnV ax ay bx bz cx cy := by
  rw [← turn_cross, ← turn_cross, w64_sub, w64_sub, w64_sub, w64_sub]
  rw [show bx + vx - (ax + vx) = bx - ax by omega, show bz + vy - (ay + vy) = bz - ay by omega, show cx + vx - (ax + vx) = cx - ax by omega, show cy + vy - (ay + vy) = cy - ay by omega]
theorem turn_same (ax ay bx bz : Int) : turnV ax ay bx bz bx bz = 0 := by
  unfold turnV
  rw [Int.mul_comm (bz - ay), Int.sub_self, w64_id ⟨by omega, by omega⟩]
  rfl
theorem abs_mul {x y : Int} (hx : x.natAbs ≤ 536870912) (hy : y.natAbs ≤ 536870912) : (x * y).natAbs ≤ 288230376151711744 := by
  rw [Int.natAbs_mul]
  exact Nat.mul_le_mul hx hy
theorem sgn_neg (n : Int) : sgn (-n) = -sgn n := by unfold sgn; grind
theorem turn_opp {ax ay bx bz cx cy : Int} (ha : Sm ax ay) (hb : Sm bx bz) (hc : Sm cx cy) : turnV ax ay cx cy bx bz = -turnV ax ay bx bz cx cy := by
  unfold Sm at ha hb hc
  unfold turnV
  have h1 := abs_mul (x := bx - ax) (y := cy - ay) (by omega) (by omega)
  have h2 := abs_mul (x := bz - ay) (y := cx - ax) (by omega) (by omega)
  rw [Int.mul_comm (cx - ax), Int.mul_comm (cy - ay)]
  generalize (bx - ax) * (cy - ay) = X at *
  generalize (bz - ay) * (cx - ax) = Y at *
  rw [w64_id ⟨by omega, by omega⟩, w64_id ⟨by omega, by omega⟩, ← sgn_neg]
  congr 1
  omega
theorem turn_range (ax ay bx bz cx cy : Int) : -1 ≤ turnV ax ay bx bz cx cy ∧ turnV ax ay bx bz cx cy ≤ 1 := by
  unfold turnV
  rcases sgn_cases (w64 ((bx - ax) * (cy - ay) - (bz - ay) * (cx - ax))) with ⟨_, e⟩ | ⟨_, e⟩ | ⟨_, e⟩ <;> omega
theorem cmp_opp (ax ay bx bz : Int) : cmpV bx bz ax ay = -cmpV ax ay bx bz := by
  rcases cmpV_cases ax ay bx bz with ⟨h, e⟩ | ⟨h, h', e⟩ | ⟨h, e⟩ <;> rcases cmpV_cases bx bz ax ay with ⟨g, f⟩ | ⟨g, g', f⟩ | ⟨g, f⟩ <;> omega
theorem cmp_moved {ax ay bx bz vx vy : Int} (ha : Sm ax ay) (hb : Sm bx bz) (hv : Sm vx vy) : cmpV (w64 (ax + vx)) (w64 (ay + vy)) (w64 (bx + vx)) (w64 (bz + vy)) = cmpV ax ay bx bz := by
  unfold Sm at ha hb hv
  rw [w64_id (n := ax + vx) ⟨by omega, by omega⟩, w64_id (n := ay + vy) ⟨by omega, by omega⟩, w64_id (n := bx + vx) ⟨by omega, by omega⟩, w64_id (n := bz + vy) ⟨by omega, by omega⟩]
  unfold cmpV
  rw [show ay + vy - (bz + vy) = ay - bz by omega, show ax + vx - (bx + vx) = ax - bx by omega]
theorem cmp_range (ax ay bx bz : Int) : -1 ≤ cmpV ax ay bx bz ∧ cmpV ax ay bx bz ≤ 1 := by
  rcases cmpV_cases ax ay bx bz with ⟨h, e⟩ | ⟨h, h', e⟩ | ⟨h, e⟩ <;> omega
theorem cmp_zero (ax ay bx bz : Int) : cmpV ax ay bx bz = 0 ↔ ax = bx ∧ ay = bz := by
  rcases cmpV_cases ax ay bx bz with ⟨h, e⟩ | ⟨h, h', e⟩ | ⟨h, e⟩ <;> omega
theorem cmp_trans {ax ay bx bz cx cy : Int} (h1 : cmpV ax ay bx bz ≤ 0) (h2 : cmpV bx bz cx cy ≤ 0) : cmpV ax ay cx cy ≤ 0 := by
  rcases cmpV_cases ax ay bx bz with ⟨h, e⟩ | ⟨h, h', e⟩ | ⟨h, e⟩ <;> rcases cmpV_cases bx bz cx cy with ⟨g, f⟩ | ⟨g, g', f⟩ | ⟨g, f⟩ <;> rcases cmpV_cases ax ay cx cy with ⟨k, l⟩ | ⟨k, k', l⟩ | ⟨k, l⟩ <;> omega
end Go.Proofs.Ytlogihcmmoldkaa.V

namespace Go.Proofs.Ytlogihcmmoldkaa.W
open Go.RowKit Go.Proofs.Ytlogihcmmoldkaa.V

theorem mixed7 : Try.prog.follows .mixedOrders = true := by kernel_rfl
/-- a world in which everything that was there in w is unchanged -/
structure KeptW (w : World) where
  wd : World
  since : Nw w wd
instance (w : World) : Inhabited (KeptW w) := ⟨⟨w, Kp.refl _ w⟩⟩
theorem wp_region_kept {P : Program} {id : Nat} {Q : Exit → Act → World → Prop} {a : Act} {w0 w : World} {l : List Oper} (h0 : Nw w0 w) (hm : P.follows .mixedOrders = true) (hB : Region.lexB .any l.toArray = true)
    (h : wpQuiet P l.toArray (fun w' => ∃ p : KeptW w0, w' = p.wd) (fun a' => ∀ w', (∃ p : KeptW w0, w' = p.wd) → Q .normal a' w') l a) : (Code.region id l.toArray true).wp P Q a w :=
  wp_region_quiet (C := fun w' => ∃ p : KeptW w0, w' = p.wd) hm hB ⟨⟨w.drew, h0.drew⟩, rfl⟩ (by simpa using h)
section
variable {P : Program} {f : FuncId} {args : Array Value} {w : World} {p : KeptW w} {v : Value}
theorem Calls.kept_of (h : Calls P f args p.wd fun e w' => e = .returned v ∧ Nw p.wd w') : Calls P f args p.wd fun e w'' => e = .returned v ∧ ∃ q : KeptW w, w'' = q.wd :=
  h.mono fun _ _ ⟨he, hn⟩ => ⟨he, ⟨_, p.since.tr hn⟩, rfl⟩
theorem Calls.kept_same (h : Calls P f args p.wd fun e w' => e = .returned v ∧ p.wd = w') : Calls P f args p.wd fun e w'' => e = .returned v ∧ ∃ q : KeptW w, w'' = q.wd :=
  h.mono fun _ _ ⟨he, hn⟩ => ⟨he, p, hn.symm⟩
theorem Calls.kept_first (h : Calls P f args w fun e w' => e = .returned v ∧ Nw w w') : Calls P f args w fun e w'' => e = .returned v ∧ ∃ q : KeptW w, w'' = q.wd :=
  h.mono fun _ _ ⟨he, hn⟩ => ⟨he, ⟨_, hn⟩, rfl⟩
end
theorem Blk.kept {w : World} {g : Nat} {t : TypeId} {cs : Array Value} (h : Blk w g t cs) (p : KeptW w) : Blk p.wd g t cs := h.kp p.since id

abbrev sV (ax ay bx bz : Int) : Value := .agg #[.int .i64 ax, .int .i64 ay, .int .i64 bx, .int .i64 bz]
abbrev pV (x y d : Int) : Value := .agg #[.int .i64 x, .int .i64 y, .int .i64 d]
end Go.Proofs.Ytlogihcmmoldkaa.W

namespace Go.Proofs.Ytlogihcmmoldkaa.W
theorem none_some {A B : Prop} {b : Bool} [inst : Decidable ((none : Option Bool) = some b)] (h : B) : @ite Prop ((none : Option Bool) = some b) inst A B := by
  rw [if_neg (by simp)]
  exact h
end Go.Proofs.Ytlogihcmmoldkaa.W

namespace Go.Proofs.Ytlogihcmmoldkaa.W
open Go.RowKit Go.Proofs.Ytlogihcmmoldkaa.V

theorem Blk.nwA {w w' : World} {g : Nat} {t : TypeId} {cs : Array Value} (h : Blk w g t cs) (hk : Nw w w') : Blk w' g t cs := h.kp hk id
theorem Blk.farA {w : World} {g k : Nat} {t : TypeId} {cs : Array Value} (h : Blk w g t cs) (hne : g ≠ k) (x y : Value) : Blk ((w.setCell ⟨k, 0, none⟩ x).setCell ⟨k, 1, none⟩ y) g t cs := (h.far (p := ⟨k, 0, none⟩) hne x).far (p := ⟨k, 1, none⟩) hne y
theorem Kp.newA {Q : Nat → Prop} {a w : World} (h : Kp Q a w) {b : Nat} (hb : a.heap.size ≤ b) (x y : Value) : Kp Q a ((w.setCell ⟨b, 0, none⟩ x).setCell ⟨b, 1, none⟩ y) := (h.new hb 0 x).new hb 1 y
theorem Kp.rcA {a w : World} {rc : Nat} (h : Kp (fun k => k = rc) a w) (o : Nat) (u : Value) : Kp (fun k => k = rc) a (w.setCell ⟨rc, o, none⟩ u) := Kp.setCell (S := fun k => k = rc) h (p := ⟨rc, o, none⟩) (fun _ => rfl) u
/-- two vectors in boxes of their own, and nothing else has changed -/
def ARel2 (x1 y1 x2 y2 : Int) (w0 : World) (px py : Value) (wx : World) : Prop := ∃ BX BY, px = .pointer (some ⟨BX, 0, none⟩) ∧ py = .pointer (some ⟨BY, 0, none⟩) ∧ Blk wx BX 23 #[.int .i64 x1, .int .i64 y1] ∧ Blk wx BY 23 #[.int .i64 x2, .int .i64 y2] ∧ Nw w0 wx ∧ BX ≠ BY ∧ w0.heap.size ≤ BX ∧ w0.heap.size ≤ BY
section
variable {x1 y1 x2 y2 : Int} {w0 w5 : World} {u v u' v' : Value} (hk : Nw w0 w5)
include hk
theorem atwo1 : ARel2 x1 y1 x2 y2 w0 (.pointer (some ⟨w5.heap.size, 0, none⟩)) (.pointer (some ⟨w5.heap.size + 1, 0, none⟩)) ((w5.alloc (.cells #[.int .i64 x1, .int .i64 y1] 23)).alloc (.cells #[.int .i64 x2, .int .i64 y2] 23)) :=
  ⟨_, _, rfl, rfl, (Blk.new _ _ _).alloc _, Blk.new_at _ _ _ (by simp), hk.tr ((nw_alloc w5 _).alloc _), by omega, by have := hk.size; omega, by have := hk.size; omega⟩
theorem atwo2 : ARel2 x1 y1 x2 y2 w0 (.pointer (some ⟨w5.heap.size + 1, 0, none⟩)) (.pointer (some ⟨w5.heap.size, 0, none⟩)) ((w5.alloc (.cells #[.int .i64 x2, .int .i64 y2] 23)).alloc (.cells #[.int .i64 x1, .int .i64 y1] 23)) :=
  ⟨_, _, rfl, rfl, Blk.new_at _ _ _ (by simp), (Blk.new _ _ _).alloc _, hk.tr ((nw_alloc w5 _).alloc _), by omega, by have := hk.size; omega, by have := hk.size; omega⟩
theorem atwo4 {h1 h2 : Nat} (b1 : Blk w5 h1 23 #[u, v]) (b2 : Blk w5 h2 23 #[u', v']) (hne : h1 ≠ h2) (s1 : w0.heap.size ≤ h1) (s2 : w0.heap.size ≤ h2) : ARel2 x1 y1 x2 y2 w0 (.pointer (some ⟨h1, 0, none⟩)) (.pointer (some ⟨h2, 0, none⟩)) ((((w5.setCell ⟨h1, 0, none⟩ (.int .i64 x1)).setCell ⟨h1, 1, none⟩ (.int .i64 y1)).setCell ⟨h2, 0, none⟩ (.int .i64 x2)).setCell ⟨h2, 1, none⟩ (.int .i64 y2)) :=
  ⟨_, _, rfl, rfl, (b1.lay2 _ _).farA hne _ _, (b2.farA (Ne.symm hne) _ _).lay2 _ _, (hk.newA s1 _ _).newA s2 _ _, hne, s1, s2⟩
theorem atwo5 {h2 : Nat} (b2 : Blk w5 h2 23 #[u', v']) (s2 : w0.heap.size ≤ h2) : ARel2 x1 y1 x2 y2 w0 (.pointer (some ⟨w5.heap.size, 0, none⟩)) (.pointer (some ⟨h2, 0, none⟩)) (((w5.alloc (.cells #[.int .i64 x1, .int .i64 y1] 23)).setCell ⟨h2, 0, none⟩ (.int .i64 x2)).setCell ⟨h2, 1, none⟩ (.int .i64 y2)) :=
  ⟨_, _, rfl, rfl, (Blk.new _ _ _).farA (Nat.ne_of_gt b2.lt) _ _, (b2.alloc _).lay2 _ _, (hk.alloc _).newA s2 _ _, Nat.ne_of_gt b2.lt, hk.size, s2⟩
theorem atwo3 {h1 : Nat} (b1 : Blk w5 h1 23 #[u, v]) (s1 : w0.heap.size ≤ h1) : ARel2 x1 y1 x2 y2 w0 (.pointer (some ⟨h1, 0, none⟩)) (.pointer (some ⟨w5.heap.size, 0, none⟩)) (((((w5.alloc (.cells #[.int .i64 0, .int .i64 0] 23)).setCell ⟨h1, 0, none⟩ (.int .i64 x1)).setCell ⟨h1, 1, none⟩ (.int .i64 y1)).setCell ⟨w5.heap.size, 0, none⟩ (.int .i64 x2)).setCell ⟨w5.heap.size, 1, none⟩ (.int .i64 y2)) :=
  atwo4 (hk.alloc _) (b1.alloc _) (Blk.new w5 _ _) (Nat.ne_of_lt b1.lt) s1 hk.size
end
abbrev arV (fx fy tx ty cx cy : Int) (cw : Bool) : Value := .agg #[.int .i64 fx, .int .i64 fy, .int .i64 tx, .int .i64 ty, .int .i64 cx, .int .i64 cy, .bool cw]
abbrev arC (fx fy tx ty cx cy : Int) (cw : Bool) : Array Value := #[.int .i64 fx, .int .i64 fy, .int .i64 tx, .int .i64 ty, .int .i64 cx, .int .i64 cy, .bool cw]
theorem within_le {x y m : Int} (hm : 0 ≤ m ∧ m ≤ 8000) (h : withinV x y m = true) : (-m ≤ x ∧ x ≤ m) ∧ (-m ≤ y ∧ y ≤ m) := by
  unfold withinV at h
  rw [w64_id ⟨by omega, by omega⟩] at h
  simp only [Bool.and_eq_true, decide_eq_true_eq] at h
  omega
theorem abs_mul_le {x y A B : Int} (hx : -A ≤ x ∧ x ≤ A) (hy : -B ≤ y ∧ y ≤ B) : -(A * B) ≤ x * y ∧ x * y ≤ A * B := by
  have h := Nat.mul_le_mul (show x.natAbs ≤ A.natAbs by omega) (show y.natAbs ≤ B.natAbs by omega)
  rw [← Int.natAbs_mul, ← Int.natAbs_mul] at h
  have hp := Int.mul_nonneg (show 0 ≤ A by omega) (show 0 ≤ B by omega)
  omega

end Go.Proofs.Ytlogihcmmoldkaa.W

namespace Go.Proofs.Ytlogihcmmoldkaa.W
open Go.RowKit Go.Proofs.Ytlogihcmmoldkaa.V Go.Proofs.Ytlogihcmmoldkaa.A

theorem len_up : ∀ (f x : Nat), x < 2 ^ f → x < 2 ^ Lib.bitLenAux f x
  | 0, x, h => by simpa [Lib.bitLenAux] using h
  | f + 1, x, h => by
    unfold Lib.bitLenAux
    split
    · next e => subst e; decide
    · have h2 : x / 2 < 2 ^ f := by rw [Nat.pow_succ] at h; omega
      have ih := len_up f (x / 2) h2
      rw [Nat.add_comm, Nat.pow_succ]
      omega
/-- the power of two that Newton's steps begin with -/
theorem root_top {n : Int} (h0 : 0 < n) (hn : I64 n) : ∃ k : Nat, ((Lib.bitLen n.toNat : Int) + 1).tdiv 2 = (k : Int) ∧ k ≤ 32 ∧ isq n ≤ (2 : Int) ^ k ∧ Lib.bitLen n.toNat ≤ 63 := by
  obtain ⟨b, hb⟩ : ∃ b, Lib.bitLen n.toNat = b := ⟨_, rfl⟩
  have h1 : b ≤ 63 := hb ▸ Lib.bitLen_le n.toNat 63 (by omega) (by unfold I64 at hn; omega)
  have h2 : n.toNat < 2 ^ b := hb ▸ len_up 64 n.toNat (by unfold I64 at hn; omega)
  rw [hb]
  refine ⟨(b + 1) / 2, by rw [Int.tdiv_eq_ediv_of_nonneg (by omega)]; omega, by omega, ?_, h1⟩
  apply isq_le
  · have e : b ≤ (b + 1) / 2 + (b + 1) / 2 := by omega
    have h3 : 2 ^ b ≤ 2 ^ ((b + 1) / 2) * 2 ^ ((b + 1) / 2) := by
      rw [← Nat.pow_add]
      exact Nat.pow_le_pow_right (by decide) e
    have h4 : (n.toNat : Int) < ((2 ^ ((b + 1) / 2) * 2 ^ ((b + 1) / 2) : Nat) : Int) := by omega
    rw [Int.natCast_mul, Int.natCast_pow] at h4
    have h5 : (0 : Int) ≤ 2 ^ ((b + 1) / 2) := Int.le_of_lt (Int.pow_pos (by decide))
    have h6 : ((2 : Nat) : Int) = 2 := rfl
    rw [h6] at h4
    generalize (2 : Int) ^ ((b + 1) / 2) = P at *
    have : (P + 1) * (P + 1) = P * P + 2 * P + 1 := by grind
    omega
  · exact Int.le_of_lt (Int.pow_pos (by decide))
/-- one of Newton's steps stays at or above the root -/
theorem root_step {n r : Int} (h0 : 0 < n) (hr : 0 < r) : isq n ≤ (r + n / r) / 2 := by
  have s := isq_spec (Int.le_of_lt h0)
  have z := isq_nn n
  generalize isq n = q at *
  have h1 : 2 * q ≤ r + n / r := by
    have h2 : (2 * q - r) * r ≤ n := by
      have := sqn (q - r)
      grind
    have := (Int.le_ediv_iff_mul_le hr).2 h2
    omega
  omega
theorem root_done {n r : Int} (hr : 0 < r) (h : r ≤ n / r) (g : isq n ≤ r) : isq n = r := by
  have h1 : r * r ≤ n := (Int.le_ediv_iff_mul_le hr).1 h
  have := le_isq h1 (Int.le_of_lt hr)
  omega
theorem isq_pos {n : Int} (h : 0 < n) : 1 ≤ isq n := le_isq (by omega) (by decide)
theorem tdiv_pos {a b : Int} (h : 0 ≤ a) : a.tdiv b = a / b := Int.tdiv_eq_ediv_of_nonneg h

set_option maxRecDepth 100000 in
set_option maxHeartbeats 3200000 in
theorem root_any (n : Int) (hn : I64 n) (w : World) : Calls Try.prog 19 #[.int .i64 n] w fun e w' => e = .returned (.int .i64 (isq n)) ∧ Nw w w' := by
  by_cases h0 : n ≤ 0
  · have e : isq n = 0 := isq_zero h0
    rw [e]
    have c : decide (n ≤ 0) = true := decide_eq_true h0
    clear hn e
    go_enter Try.func19, Try.ntmps19
    go_wp2
    go_ret
    exact ⟨rfl, Kp.refl _ _⟩
  · have c : decide (n ≤ 0) = false := decide_eq_false h0
    have h1 : 0 < n := by omega
    obtain ⟨k, hk, hk2, hk3, hk4⟩ := root_top h1 hn
    have HN := Lib.hid hn
    have HL : ∀ w1 : World, Calls Try.prog 36 #[.int .u64 n] w1 fun e w' => e = .returned (.int .i64 (Lib.bitLen n.toNat)) ∧ w' = w1 := fun w1 => Any.bits_Len Try.lays125 n w1 (by omega) (by unfold I64 at hn; omega)
    have a1 : IntKind.u64.wrap n = n := by unfold I64 at hn; simp [IntKind.wrap, IntKind.bits, IntKind.signed]; omega
    have a2 : IntKind.i64.wrap ((Lib.bitLen n.toNat : Int) + 1) = (Lib.bitLen n.toNat : Int) + 1 := by rw [IntKind.wrap_i64]; omega
    have a3 : IntKind.i64.wrap (((Lib.bitLen n.toNat : Int) + 1).tdiv 2) = (k : Int) := by rw [hk, IntKind.wrap_i64]; omega
    clear hn
    go_enter Try.func19, Try.ntmps19
    go_wp2_with (go_at_call 36; refine (HL _).mono ?_; rintro e w1 ⟨rfl, rfl⟩)
    obtain ⟨T, hT⟩ : ∃ T, (2 : Int) ^ k = T := ⟨_, rfl⟩
    have hT1 : 1 ≤ T := by rw [← hT]; exact Int.pow_pos (by decide)
    have hT2 : T ≤ 4294967296 := by
      rw [← hT]
      have h := Nat.pow_le_pow_right (n := 2) (by decide) hk2
      have h2 : ((2 ^ k : Nat) : Int) ≤ ((2 ^ 32 : Nat) : Int) := by omega
      rw [Int.natCast_pow] at h2
      exact h2
    rw [hT] at hk3 ⊢
    have a4 : wrap64 T = T := by have := w64_id (show I64 T from ⟨by omega, by omega⟩); exact this
    rw [a4]
    go_loopw [3] (fun r wr => ∃ k : Int, r = .int .i64 k ∧ 1 ≤ k ∧ k ≤ 4294967296 ∧ isq n ≤ k ∧ wr = w1) (fun r _ => (intOf r).toNat)
    case atStart => exact ⟨T, rfl, hT1, hT2, hk3, rfl⟩
    case round =>
      obtain ⟨r, rfl, r1, r2, r3, rfl⟩ := hrel
      have hq : n.tdiv r = n / r := tdiv_pos (by omega)
      obtain ⟨q, hq2⟩ : ∃ q, n / r = q := ⟨_, rfl⟩
      have q0 : 0 ≤ q := by rw [← hq2]; exact Int.ediv_nonneg (by omega) (by omega)
      have q1 : q ≤ n := by rw [← hq2]; exact Int.ediv_le_self r (by omega)
      have hi := HN.out
      unfold I64 at hi
      have z0 : ¬ (r = 0) := by omega
      have st := root_step h1 (r := r) (by omega)
      have dn := fun h => root_done (n := n) (r := r) (by omega) h r3
      rw [hq2] at hq st dn
      have b1 : IntKind.i64.wrap (n.tdiv r) = q := by rw [hq, IntKind.wrap_i64]; omega
      by_cases hg : q < r
      · obtain ⟨s, hs⟩ : ∃ s, (r + q) / 2 = s := ⟨_, rfl⟩
        rw [hs] at st
        have b2 : IntKind.i64.wrap (r + q) = r + q := by rw [IntKind.wrap_i64]; omega
        have b3 : IntKind.i64.wrap ((r + q).tdiv 2) = s := by rw [tdiv_pos (by omega), hs, IntKind.wrap_i64]; omega
        have HS := Lib.hid st
        have hs0 : s < r := by omega
        have hs2 : 1 ≤ s := by have := isq_pos h1; omega
        clear hq hq2 q0 q1 hi dn r3 hk3 hT hT1 hT2 a4 hs st
        go_wp2
        go_roundw
        case rel => exact ⟨s, rfl, hs2, by omega, HS.out, by trivial⟩
        case measure => simp [intOf]; omega
      · have e := dn (by omega)
        rw [e]
        clear hq hq2 q0 q1 hi dn r3 hk3 hT hT1 hT2 a4 st
        go_wp2
        go_ret
        exact ⟨rfl, Kp.refl _ _⟩

set_option maxRecDepth 100000 in
set_option maxHeartbeats 3200000 in
theorem rroot_any (n : Int) (hn : I64 n) (w : World) : Calls Try.prog 37 #[.int .i64 n] w fun e w' => e = .returned (.int .i64 (isq n)) ∧ Nw w w' := by
  by_cases h0 : n ≤ 0
  · have e : isq n = 0 := isq_zero h0
    rw [e]
    have c : decide (n ≤ 0) = true := decide_eq_true h0
    clear hn e
    go_enter Try.func37, Try.ntmps37
    go_wp2
    go_ret
    exact ⟨rfl, Kp.refl _ _⟩
  · have c : decide (n ≤ 0) = false := decide_eq_false h0
    have h1 : 0 < n := by omega
    have HN := Lib.hid hn
    clear hn
    go_enter Try.func37, Try.ntmps37
    go_wp2_with fail
    go_loopw [3, 4] (fun x y wr => ∃ a b : Int, x = .int .i64 a ∧ y = .int .i64 b ∧ 0 ≤ a ∧ a < b ∧ b ≤ 3037000500 ∧ a * a ≤ n ∧ n < b * b ∧ wr = w) (fun x y _ => (intOf y - intOf x).toNat)
    case atStart => exact ⟨0, _, rfl, rfl, by omega, by omega, by omega, by omega, by have := HN.out; unfold I64 at this; omega, rfl⟩
    case round =>
      obtain ⟨a, b, rfl, rfl, r0, r1, r2, r3, r4, rfl⟩ := hrel
      have b1 : IntKind.i64.wrap (b - a) = b - a := by rw [IntKind.wrap_i64]; omega
      by_cases hg : 1 < b - a
      · obtain ⟨m, hm⟩ : ∃ m, (a + b) / 2 = m := ⟨_, rfl⟩
        have m0 : a < m := by omega
        have m1 : m < b := by omega
        have hq : n.tdiv m = n / m := tdiv_pos (by omega)
        obtain ⟨q, hq2⟩ : ∃ q, n / m = q := ⟨_, rfl⟩
        have q0 : 0 ≤ q := by rw [← hq2]; exact Int.ediv_nonneg (by omega) (by omega)
        have q1 : q ≤ n := by rw [← hq2]; exact Int.ediv_le_self m (by omega)
        have hi := HN.out
        unfold I64 at hi
        have z0 : ¬ (m = 0) := by omega
        rw [hq2] at hq
        have b2 : IntKind.i64.wrap (a + b) = a + b := by rw [IntKind.wrap_i64]; omega
        have b3 : IntKind.i64.wrap ((a + b).tdiv 2) = m := by rw [tdiv_pos (by omega), hm, IntKind.wrap_i64]; omega
        have b4 : IntKind.i64.wrap (n.tdiv m) = q := by rw [hq, IntKind.wrap_i64]; omega
        have k : m ≤ q ↔ m * m ≤ n := by rw [← hq2]; exact Int.le_ediv_iff_mul_le (by omega)
        by_cases hc : m ≤ q
        · have K := Lib.hid (show 0 ≤ m ∧ m < b ∧ b ≤ 3037000500 ∧ m * m ≤ n ∧ n < b * b ∧ a < m ∧ a < b from ⟨by omega, m1, r2, k.1 hc, r4, m0, r1⟩)
          clear hq hq2 q0 q1 hi k r0 r1 r2 r3 r4 hm m0 m1
          go_wp2
          go_roundw
          case rel => exact ⟨m, b, rfl, rfl, K.out.1, K.out.2.1, K.out.2.2.1, K.out.2.2.2.1, K.out.2.2.2.2.1, by trivial⟩
          case measure => have := K.out; simp [intOf]; omega
        · have K := Lib.hid (show 0 ≤ a ∧ a < m ∧ m ≤ 3037000500 ∧ a * a ≤ n ∧ n < m * m ∧ m < b ∧ a < b from ⟨r0, m0, by omega, r3, by omega, m1, r1⟩)
          clear hq hq2 q0 q1 hi k r0 r1 r2 r3 r4 hm m0 m1
          go_wp2
          go_roundw
          case rel => exact ⟨a, m, rfl, rfl, K.out.1, K.out.2.1, K.out.2.2.1, K.out.2.2.2.1, K.out.2.2.2.2.1, by trivial⟩
          case measure => have := K.out; simp [intOf]; omega
      · have e : isq n = a := isq_unique r0 r3 (by rw [show a + 1 = b by omega]; exact r4)
        have E := Lib.hid e
        clear r3 r4 e
        go_wp2
        go_ret
        exact ⟨by rw [E.out]; rfl, Kp.refl _ _⟩

end Go.Proofs.Ytlogihcmmoldkaa.W
