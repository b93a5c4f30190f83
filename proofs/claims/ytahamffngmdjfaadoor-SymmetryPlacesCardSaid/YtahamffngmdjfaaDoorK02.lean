/-
  The table of the quarter turns as the row lists it. Condition: the row's own.
  vec and its reference: comparing, the norm, the turn, boxes: what each function returns. No condition.
  vec and its reference: order, norm, turn, boxes: what each function returns. No condition.
-/
import Derived.Test.YtahamffngmdjfaaDoorRows
import Derived.Test.YtahamffngmdjfaaDoorTie
import Derived.Test.YtahamffngmdjfaaDoorCards
import Derived.Test.YtahamffngmdjfaaDoorK01
import Derived.LaidMore
import Derived.LaidHandle
import Derived.Lib.LaidTab
import Derived.SevenTiedAt
import Derived.ChangeMaps5
import Derived.MakeChecks
import Derived.BigQuiet
import Derived.Sort.Grow
import Derived.Deep.RegionHeld3
import Derived.Deep.CutRange
namespace Go.Proofs.YtahamffngmdjfaaDoor.W
open Go.ChangeShapes Go.WideShapes Go.RowKit Go.Proofs.YtahamffngmdjfaaDoor.V Go.Proofs.YtahamffngmdjfaaDoor.G

abbrev laidQ : List (String × DataW Unit) := Rows.symmetryVecRow.laid
abbrev turnName : String := (laidQ.map (·.1)).head!
/-- the coefficients of the quarter turns, one cell after the other -/
def turnC : Array Value := #[.int .i64 1, .int .i64 0, .int .i64 0, .int .i64 1, .int .i64 0, .int .i64 (-1), .int .i64 1, .int .i64 0, .int .i64 (-1), .int .i64 0, .int .i64 0, .int .i64 (-1), .int .i64 0, .int .i64 1, .int .i64 (-1), .int .i64 0]
/-- the variable holds them -/
def TabQ (w : World) : Prop := w.var? Tryd.prog turnName = some turnC
theorem gTurn : Tryd.prog.globalNamed turnName = some 0 := by kernel_rfl
theorem tTurn : (Tryd.prog.globals[0]?).map (·.type) = some 55 := by kernel_rfl
theorem c4 : Tryd.prog.cellsOf 54 = 4 := by kernel_rfl
theorem c2 : Tryd.prog.cellsOf 53 = 2 := by kernel_rfl
theorem c1 : Tryd.prog.cellsOf 3 = 1 := by kernel_rfl
theorem c16 : Tryd.prog.cellsOf 55 = 16 := by kernel_rfl
section
variable {H : Type} {enc : TypeId × Value → H} {w : World} {base : Nat} {held : Bool}
theorem trod_two {n : Nat} {cs : List Value} {a b : Int} {p : List MemPlace} (h : DataW.trod enc Tryd.prog w base (fun _ => true) held n 53 cs = some (.agg [.lit (.int .i64 a), .lit (.int .i64 b)], p)) : cs = [.int .i64 a, .int .i64 b] := by
  have h' := @Lib.cells_of_tab H enc Tryd.prog w base (fun _ => true) held n 53 3 2 .i64 cs [a, b] p Tryd.underlying53 Tryd.underlying3 c1 c2 h
  simpa using h'
theorem trod_four {n : Nat} {cs : List Value} {a b c d : Int} {p : List MemPlace} (h : DataW.trod enc Tryd.prog w base (fun _ => true) held n 54 cs = some (.agg [.agg [.lit (.int .i64 a), .lit (.int .i64 b)], .agg [.lit (.int .i64 c), .lit (.int .i64 d)]], p)) : cs = [.int .i64 a, .int .i64 b, .int .i64 c, .int .i64 d] := by
  cases n with
  | zero => simp [DataW.trod] at h
  | succ n =>
    simp only [DataW.trod, Tryd.underlying54, c2, c4] at h
    split at h
    · rename_i hl
      obtain ⟨xs, hm, hx⟩ := Option.map_eq_some_iff.1 h
      have hxs := congrArg Prod.fst hx
      simp only [DataW.agg.injEq] at hxs
      match cs, hl with
      | [e0, e1, e2, e3], _ =>
        have hxl : xs.length = 2 := by simpa using congrArg List.length hxs
        match xs, hxl with
        | [x0, x1], _ =>
          simp only [List.map_cons, List.map_nil, List.cons.injEq, and_true] at hxs
          obtain ⟨h0, h1⟩ := hxs
          obtain ⟨b0, hb0, hf0⟩ := Lib.mapM_at hm 0 0 rfl
          obtain ⟨b1, hb1, hf1⟩ := Lib.mapM_at hm 1 1 rfl
          obtain rfl : x0 = b0 := Option.some.inj hb0
          obtain rfl : x1 = b1 := Option.some.inj hb1
          obtain ⟨x0a, x0b⟩ := x0
          obtain ⟨x1a, x1b⟩ := x1
          obtain rfl : x0a = _ := h0
          obtain rfl : x1a = _ := h1
          have g0 := trod_two hf0
          have g1 := trod_two hf1
          simp at g0 g1
          obtain ⟨rfl, rfl⟩ := g0
          obtain ⟨rfl, rfl⟩ := g1
          rfl
    · cases h
theorem trod_turns {n : Nat} {cs : List Value} {p : List MemPlace} (h : DataW.trod enc Tryd.prog w base (fun _ => true) held n 55 cs = some (Rows.laid_fretsaw_symmetry_quarterTurns, p)) : cs = turnC.toList := by
  cases n with
  | zero => simp [DataW.trod] at h
  | succ n =>
    simp only [DataW.trod, Tryd.underlying55, c4, c16] at h
    split at h
    · rename_i hl
      obtain ⟨xs, hm, hx⟩ := Option.map_eq_some_iff.1 h
      have hxs := congrArg Prod.fst hx
      simp only [Rows.laid_fretsaw_symmetry_quarterTurns, DataW.agg.injEq] at hxs
      match cs, hl with
      | [e0, e1, e2, e3, e4, e5, e6, e7, e8, e9, e10, e11, e12, e13, e14, e15], _ =>
        have hxl : xs.length = 4 := by simpa using congrArg List.length hxs
        match xs, hxl with
        | [x0, x1, x2, x3], _ =>
          simp only [List.map_cons, List.map_nil, List.cons.injEq, and_true] at hxs
          obtain ⟨h0, h1, h2, h3⟩ := hxs
          obtain ⟨b0, hb0, hf0⟩ := Lib.mapM_at hm 0 0 rfl
          obtain ⟨b1, hb1, hf1⟩ := Lib.mapM_at hm 1 1 rfl
          obtain ⟨b2, hb2, hf2⟩ := Lib.mapM_at hm 2 2 rfl
          obtain ⟨b3, hb3, hf3⟩ := Lib.mapM_at hm 3 3 rfl
          obtain rfl : x0 = b0 := Option.some.inj hb0
          obtain rfl : x1 = b1 := Option.some.inj hb1
          obtain rfl : x2 = b2 := Option.some.inj hb2
          obtain rfl : x3 = b3 := Option.some.inj hb3
          obtain ⟨x0a, x0b⟩ := x0
          obtain ⟨x1a, x1b⟩ := x1
          obtain ⟨x2a, x2b⟩ := x2
          obtain ⟨x3a, x3b⟩ := x3
          obtain rfl : x0a = _ := h0
          obtain rfl : x1a = _ := h1
          obtain rfl : x2a = _ := h2
          obtain rfl : x3a = _ := h3
          have g0 := trod_four hf0
          have g1 := trod_four hf1
          have g2 := trod_four hf2
          have g3 := trod_four hf3
          simp at g0 g1 g2 g3
          obtain ⟨rfl, rfl, rfl, rfl⟩ := g0
          obtain ⟨rfl, rfl, rfl, rfl⟩ := g1
          obtain ⟨rfl, rfl, rfl, rfl⟩ := g2
          obtain ⟨rfl, rfl, rfl, rfl⟩ := g3
          rfl
    · cases h
end
theorem tabQ_of {W : World} (h : laidMetH Tryd.prog laidQ W) : TabQ W := by
  rw [MakeChecks.laidMetH_plain _ _ _ (by kernel_rfl)] at h
  obtain ⟨ps, ⟨g', t', cs, fuel, p, q, hg', ht', hvar, hd, _, _⟩, _⟩ := (show laidMet Tryd.prog ((turnName, Rows.laid_fretsaw_symmetry_quarterTurns) :: []) W from h)
  obtain rfl := Option.some.inj (gTurn.symm.trans hg')
  obtain rfl := Option.some.inj (tTurn.symm.trans ht')
  unfold TabQ
  rw [hvar]
  have := trod_turns hd
  congr 1
  exact Array.ext' (by simpa using this)
theorem doorQ_met (os : Os) (args : Array Value) : laidMetH Tryd.prog laidQ ((World.doorLaid Tryd.prog 114 os).forCall (fun _ _ => 0) ⟨#[], args, []⟩).memory :=
  laidMetH_of_parts3 (fuel := 8) (laidMet_of_run' 8 (by kernel_rfl) (by kernel_rfl)) (by kernel_rfl) (by kernel_rfl)
theorem TabQ.lt {w : World} (h : TabQ w) : 0 < w.heap.size := by
  unfold TabQ World.var? at h
  rw [gTurn] at h
  simp only [Option.bind_some] at h
  rcases Nat.lt_or_ge 0 w.heap.size with h1 | h1
  · exact h1
  · rw [Array.getElem?_eq_none h1] at h
    simp at h
/-- what a call leaves as it was, it leaves the table too -/
theorem TabQ.nw {w w' : World} (h : TabQ w) (hk : Nw w w') : TabQ w' := by
  have hlt := h.lt
  unfold TabQ World.var? at h ⊢
  rw [gTurn] at h ⊢
  simp only [Option.bind_some] at h ⊢
  rw [hk.block _ hlt fun e => e]
  exact h
theorem TabQ.cell {w : World} (h : TabQ w) (i : Nat) : w.cell? ⟨0, i, none⟩ = turnC[i]? := World.var?_cell gTurn h i
end Go.Proofs.YtahamffngmdjfaaDoor.W

namespace Go.Proofs.YtahamffngmdjfaaDoor.W
open Go.RowKit Go.Proofs.YtahamffngmdjfaaDoor.V

theorem isNaN_any (x : Int) (w : World) : Calls Tryd.prog 89 #[.int .i64 x] w fun e w' => e = .returned (.bool false) ∧ w = w' := by
  go_enter Tryd.func89, Tryd.ntmps89
  go_wp2
  go_ret
  exact ⟨by simp, rfl⟩
theorem compareInt_any (x y : Int) (w : World) : Calls Tryd.prog 82 #[.int .i64 x, .int .i64 y] w fun e w' => e = .returned (.int .i64 (sgn (x - y))) ∧ w = w' := by
  have hs : sgn (x - y) = if x < y then -1 else if x = y then 0 else 1 := by unfold sgn; grind
  rcases Int.lt_trichotomy x y with h | h | h
  · rw [hs, if_pos h]
    have e1 : decide (x < y) = true := decide_eq_true (by omega)
    clear hs
    go_enter Tryd.func82, Tryd.ntmps82
    go_wp2_with (go_at_call 89; refine (isNaN_any _ _).mono ?_; rintro e w1 ⟨rfl, rfl⟩)
    go_ret
    exact ⟨rfl, rfl⟩
  · subst h
    rw [hs, if_neg (Int.lt_irrefl x), if_pos rfl]
    clear hs
    have e1 : decide (x < x) = false := decide_eq_false (by omega)
    have e2 : decide (x > x) = false := decide_eq_false (by omega)
    go_enter Tryd.func82, Tryd.ntmps82
    go_wp2_with (go_at_call 89; refine (isNaN_any _ _).mono ?_; rintro e w1 ⟨rfl, rfl⟩)
    go_ret
    exact ⟨rfl, rfl⟩
  · rw [hs, if_neg (by omega), if_neg (by omega)]
    have e1 : decide (x < y) = false := decide_eq_false (by omega)
    have e2 : decide (x > y) = true := decide_eq_true (by omega)
    clear hs
    go_enter Tryd.func82, Tryd.ntmps82
    go_wp2_with (go_at_call 89; refine (isNaN_any _ _).mono ?_; rintro e w1 ⟨rfl, rfl⟩)
    go_ret
    exact ⟨rfl, rfl⟩

set_option maxHeartbeats 1600000 in
theorem or_any (g : Nat) (x y : Int) (w : World) (h0 : w.cell? ⟨g, 0, none⟩ = some (.int .i64 x)) (h1 : w.cell? ⟨g, 1, none⟩ = some (.int .i64 y)) : Calls Tryd.prog 81 #[.slice (some ⟨g, 0, none⟩) 2 2] w fun e w' => e = .returned (.int .i64 (if x ≠ 0 then x else y)) ∧ w = w' := by
  go_enter Tryd.func81, Tryd.ntmps81
  go_wp2
  go_loopw [8] (fun i wr => ∃ k : Nat, i = .int .i64 k ∧ k ≤ 2 ∧ (1 ≤ k → x = 0) ∧ (2 ≤ k → y = 0) ∧ wr = w) (fun i _ => 2 - (intOf i).toNat)
  case atStart => exact ⟨0, rfl, by omega, by omega, by omega, rfl⟩
  case round =>
    obtain ⟨k, rfl, hk, hx, hy, rfl⟩ := hrel
    obtain rfl | rfl | rfl : k = 0 ∨ k = 1 ∨ k = 2 := by omega
    · clear hk hx hy
      by_cases hx : x = 0
      · subst hx
        go_wp2
        go_roundw
        case rel => exact ⟨1, by simp⟩
        case measure => simp [intOf]
      · have e1 : (x != 0) = true := by simp [hx]
        go_wp2
        go_ret
        exact ⟨rfl, rfl⟩
    · obtain rfl := hx (by omega)
      clear hk hx hy
      by_cases hy : y = 0
      · subst hy
        go_wp2
        go_roundw
        case rel => exact ⟨2, by simp⟩
        case measure => simp [intOf]
      · have e1 : (y != 0) = true := by simp [hy]
        clear hy
        go_wp2
        go_ret
        exact ⟨by simp, rfl⟩
    · obtain rfl := hx (by omega)
      obtain rfl := hy (by omega)
      clear hk hx hy
      go_wp2
      go_ret
      exact ⟨by simp, rfl⟩

set_option maxHeartbeats 1600000 in
theorem compare_any (ax ay bx bz : Int) (w : World) : Calls Tryd.prog 64 #[vV ax ay, vV bx bz] w fun e w' => e = .returned (.int .i64 (cmpV ax ay bx bz)) ∧ ∃ q os, w' = Sort.grow (w.drewN q) os := by
  have c1 := fun w1 => compareInt_any ay bz w1
  have c2 := fun w1 => compareInt_any ax bx w1
  unfold cmpV
  generalize sgn (ay - bz) = s at *
  generalize sgn (ax - bx) = t at *
  have hO := fun g w3 h0 h1 => or_any g s t w3 h0 h1
  generalize (if s ≠ 0 then s else t) = r at *
  go_enter Tryd.func64, Tryd.ntmps64
  have hP : ∀ w' : World, Nw ((w.alloc (.cells #[.int .i64 ax, .int .i64 ay] 23)).alloc (.cells #[.int .i64 bx, .int .i64 bz] 23)) w' → w'.cell? (⟨w.heap.size, 0, none⟩ : Addr) = some (.int .i64 ax) ∧ w'.cell? (⟨w.heap.size, 1, none⟩ : Addr) = some (.int .i64 ay) ∧ w'.cell? (⟨w.heap.size + 1, 0, none⟩ : Addr) = some (.int .i64 bx) ∧ w'.cell? (⟨w.heap.size + 1, 1, none⟩ : Addr) = some (.int .i64 bz) := fun w' h => by
    obtain ⟨a, b, _, _⟩ := (((Blk.new w 23 #[.int .i64 ax, .int .i64 ay]).alloc (.cells #[.int .i64 bx, .int .i64 bz] 23)).kp h id).two
    obtain ⟨c, d, _, _⟩ := ((Blk.new_at (w.alloc (.cells #[.int .i64 ax, .int .i64 ay] 23)) 23 #[.int .i64 bx, .int .i64 bz] (n := w.heap.size + 1) (by simp)).kp h id).two
    exact ⟨a, b, c, d⟩
  have HN := Lib.hid (show _ ∧ _ from ⟨(Blk.new_at ((w.alloc (.cells #[.int .i64 ax, .int .i64 ay] 23)).alloc (.cells #[.int .i64 bx, .int .i64 bz] 23)) 3 #[.int .i64 s, .int .i64 t] (n := w.heap.size + 1 + 1) (by simp)).drew.cell 0, (Blk.new_at ((w.alloc (.cells #[.int .i64 ax, .int .i64 ay] 23)).alloc (.cells #[.int .i64 bx, .int .i64 bz] 23)) 3 #[.int .i64 s, .int .i64 t] (n := w.heap.size + 1 + 1) (by simp)).drew.cell 1⟩)
  have HP := Lib.hid hP
  clear hP
  go_wp2_with fail
  go_region_held3 (fun w' : World => w'.cell? (⟨w.heap.size, 0, none⟩ : Addr) = some (.int .i64 ax) ∧ w'.cell? (⟨w.heap.size, 1, none⟩ : Addr) = some (.int .i64 ay) ∧ w'.cell? (⟨w.heap.size + 1, 0, none⟩ : Addr) = some (.int .i64 bx) ∧ w'.cell? (⟨w.heap.size + 1, 1, none⟩ : Addr) = some (.int .i64 bz))
    (first | exact HP.out _ (Kp.refl _ _) | exact HP.out _ (Kp.drew (Kp.refl _ _)) | exact HP.out _ (Kp.alloc (Kp.drew (Kp.refl _ _)) _) | exact HP.out _ (Kp.alloc (Kp.refl _ _) _) | fail)
    (first
      | (go_at_call 82; ((with_reducible refine (c1 _).mono ?_); rintro e w4 ⟨rfl, rfl⟩))
      | (go_at_call 82; ((with_reducible refine (c2 _).mono ?_); rintro e w5 ⟨rfl, rfl⟩))
      | (go_at_call 81; ((refine (hO _ _ (HN.out.1) (HN.out.2)).mono ?_); rintro e w6 ⟨rfl, rfl⟩)))
  go_wp2
  go_ret
  exact ⟨rfl, 1, #[.cells #[.int .i64 ax, .int .i64 ay] 23, .cells #[.int .i64 bx, .int .i64 bz] 23, .cells #[.int .i64 s, .int .i64 t] 3], by rw [Sort.alloc_eq_grow, Sort.alloc_eq_grow, Sort.alloc_eq_grow, Sort.grow_grow, Sort.grow_grow]; rfl⟩
end Go.Proofs.YtahamffngmdjfaaDoor.W

namespace Go.Proofs.YtahamffngmdjfaaDoor.W
open Go.RowKit Go.Proofs.YtahamffngmdjfaaDoor.V

theorem nw_grow (w : World) (os : Array Obj) : Nw w (Sort.grow w os) := ⟨rfl, rfl, rfl, by simp, fun i hi _ => Sort.heap_grow_old w os hi⟩
theorem nw_grown {w w' : World} (h : ∃ q os, w' = Sort.grow (w.drewN q) os) : Nw w w' := by
  obtain ⟨q, os, rfl⟩ := h
  exact (nw_drewN w q).tr (nw_grow _ os)
theorem compare_nw (ax ay bx bz : Int) (w : World) : Calls Tryd.prog 64 #[vV ax ay, vV bx bz] w fun e w' => e = .returned (.int .i64 (cmpV ax ay bx bz)) ∧ Nw w w' :=
  (compare_any ax ay bx bz w).mono fun _ _ h => ⟨h.1, nw_grown h.2⟩

theorem less_any (ax ay bx bz : Int) (w : World) : Calls Tryd.prog 95 #[vV ax ay, vV bx bz] w fun e w' => e = .returned (.bool (lessV ax ay bx bz)) ∧ Nw w w' := by
  have hc := fun w1 => compare_nw ax ay bx bz w1
  rw [less_cmp]
  generalize cmpV ax ay bx bz = r at *
  go_enter Tryd.func95, Tryd.ntmps95
  go_wp2_with (go_at_call 64; refine (hc _).mono ?_; rintro e w1 ⟨rfl, hk⟩)
  go_ret
  exact ⟨rfl, ((nw_alloc _ _).alloc _).tr hk⟩

theorem rless_any (ax ay bx bz : Int) (w : World) : Calls Tryd.prog 66 #[vV ax ay, vV bx bz] w fun e w' => e = .returned (.bool (lessV ax ay bx bz)) ∧ Nw w w' := by
  unfold lessV
  by_cases h1 : ay < bz
  · have e1 : decide (ay < bz) = true := decide_eq_true h1
    rw [e1]
    clear h1
    go_enter Tryd.func66, Tryd.ntmps66
    go_wp2
    go_ret
    exact ⟨by simp, by repeat (first | exact Kp.refl _ _ | refine Kp.alloc ?_ _ | refine Kp.drew ?_ | refine Kp.drewN ?_ _)⟩
  · have e1 : decide (ay < bz) = false := decide_eq_false h1
    rw [e1]
    clear h1
    by_cases h2 : ay = bz
    · subst h2
      clear e1
      have e1 : decide (ay < ay) = false := by simp
      go_enter Tryd.func66, Tryd.ntmps66
      go_wp2
      go_ret
      exact ⟨by simp, by repeat (first | exact Kp.refl _ _ | refine Kp.alloc ?_ _ | refine Kp.drew ?_ | refine Kp.drewN ?_ _)⟩
    · have e2 : (ay == bz) = false := by simp [h2]
      rw [decide_eq_false h2]
      clear h2
      go_enter Tryd.func66, Tryd.ntmps66
      go_wp2
      go_ret
      exact ⟨by simp, by repeat (first | exact Kp.refl _ _ | refine Kp.alloc ?_ _ | refine Kp.drew ?_ | refine Kp.drewN ?_ _)⟩

theorem sign_any (n : Int) (w : World) : Calls Tryd.prog 67 #[.int .i64 n] w fun e w' => e = .returned (.int .i64 (sgn n)) ∧ w = w' := by
  rcases sgn_cases n with ⟨h, e⟩ | ⟨h, e⟩ | ⟨h, e⟩ <;> rw [e] <;> clear e
  · have e1 : decide (n > 0) = false := decide_eq_false (by omega)
    have e2 : decide (n < 0) = true := decide_eq_true h
    clear h
    go_enter Tryd.func67, Tryd.ntmps67
    go_wp2
    go_ret
    exact ⟨rfl, rfl⟩
  · subst h
    go_enter Tryd.func67, Tryd.ntmps67
    go_wp2
    go_ret
    exact ⟨rfl, rfl⟩
  · have e1 : decide (n > 0) = true := decide_eq_true h
    clear h
    go_enter Tryd.func67, Tryd.ntmps67
    go_wp2
    go_ret
    exact ⟨rfl, rfl⟩

theorem rabs_any (n : Int) (w : World) : Calls Tryd.prog 48 #[.int .i64 n] w fun e w' => e = .returned (.int .i64 (absV n)) ∧ w = w' := by
  unfold absV
  by_cases h : 0 ≤ n
  · rw [if_pos h]
    have e1 : decide (n ≥ 0) = true := decide_eq_true h
    clear h
    go_enter Tryd.func48, Tryd.ntmps48
    go_wp2
    go_ret
    exact ⟨rfl, rfl⟩
  · rw [if_neg h]
    have e1 : decide (n ≥ 0) = false := decide_eq_false h
    clear h
    go_enter Tryd.func48, Tryd.ntmps48
    go_wp2
    go_ret
    exact ⟨rfl, rfl⟩

set_option maxHeartbeats 3200000 in
theorem turn_any (ax ay bx bz cx cy : Int) (w : World) : Calls Tryd.prog 87 #[vV ax ay, vV bx bz, vV cx cy] w fun e w' => e = .returned (.int .i64 (turnV ax ay bx bz cx cy)) ∧ Nw w w' := by
  have c1 := fun w1 => sub_any bx bz ax ay w1
  have c2 := fun w1 => sub_any cx cy ax ay w1
  have c3 := fun w1 => cross_any (w64 (bx - ax)) (w64 (bz - ay)) (w64 (cx - ax)) (w64 (cy - ay)) w1
  have c4 := fun w1 => compareInt_any (crossV (w64 (bx - ax)) (w64 (bz - ay)) (w64 (cx - ax)) (w64 (cy - ay))) 0 w1
  rw [Int.sub_zero] at c4
  rw [turn_cross] at c4
  generalize turnV ax ay bx bz cx cy = r at *
  generalize crossV (w64 (bx - ax)) (w64 (bz - ay)) (w64 (cx - ax)) (w64 (cy - ay)) = s at *
  generalize w64 (bx - ax) = s1 at *
  generalize w64 (bz - ay) = s2 at *
  generalize w64 (cx - ax) = s3 at *
  generalize w64 (cy - ay) = s4 at *
  have hP : ∀ w' : World, Nw (((w.alloc (.cells #[.int .i64 ax, .int .i64 ay] 23)).alloc (.cells #[.int .i64 bx, .int .i64 bz] 23)).alloc (.cells #[.int .i64 cx, .int .i64 cy] 23)) w' → w'.cell? (⟨w.heap.size, 0, none⟩ : Addr) = some (.int .i64 ax) ∧ w'.cell? (⟨w.heap.size, 1, none⟩ : Addr) = some (.int .i64 ay) ∧ w'.cell? (⟨w.heap.size + 1, 0, none⟩ : Addr) = some (.int .i64 bx) ∧ w'.cell? (⟨w.heap.size + 1, 1, none⟩ : Addr) = some (.int .i64 bz) ∧ w'.cell? (⟨w.heap.size + 1 + 1, 0, none⟩ : Addr) = some (.int .i64 cx) ∧ w'.cell? (⟨w.heap.size + 1 + 1, 1, none⟩ : Addr) = some (.int .i64 cy) := fun w' h => by
    obtain ⟨a0, b0, _, _⟩ := ((((Blk.new_at w 23 #[.int .i64 ax, .int .i64 ay] (n := w.heap.size) (by simp)).alloc (.cells #[.int .i64 bx, .int .i64 bz] 23)).alloc (.cells #[.int .i64 cx, .int .i64 cy] 23)).kp h id).two
    obtain ⟨a1, b1, _, _⟩ := (((Blk.new_at (w.alloc (.cells #[.int .i64 ax, .int .i64 ay] 23)) 23 #[.int .i64 bx, .int .i64 bz] (n := w.heap.size + 1) (by simp)).alloc (.cells #[.int .i64 cx, .int .i64 cy] 23)).kp h id).two
    obtain ⟨a2, b2, _, _⟩ := ((Blk.new_at ((w.alloc (.cells #[.int .i64 ax, .int .i64 ay] 23)).alloc (.cells #[.int .i64 bx, .int .i64 bz] 23)) 23 #[.int .i64 cx, .int .i64 cy] (n := w.heap.size + 1 + 1) (by simp)).kp h id).two
    exact ⟨a0, b0, a1, b1, a2, b2⟩
  have HP := Lib.hid hP
  clear hP
  go_enter Tryd.func87, Tryd.ntmps87
  go_wp2_with fail
  go_region_held3 (fun w' : World => w'.cell? (⟨w.heap.size, 0, none⟩ : Addr) = some (.int .i64 ax) ∧ w'.cell? (⟨w.heap.size, 1, none⟩ : Addr) = some (.int .i64 ay) ∧ w'.cell? (⟨w.heap.size + 1, 0, none⟩ : Addr) = some (.int .i64 bx) ∧ w'.cell? (⟨w.heap.size + 1, 1, none⟩ : Addr) = some (.int .i64 bz) ∧ w'.cell? (⟨w.heap.size + 1 + 1, 0, none⟩ : Addr) = some (.int .i64 cx) ∧ w'.cell? (⟨w.heap.size + 1 + 1, 1, none⟩ : Addr) = some (.int .i64 cy))
    (first | exact HP.out _ (Kp.refl _ _) | exact HP.out _ (Kp.drew (Kp.refl _ _)) | exact HP.out _ (Kp.alloc (Kp.drew (Kp.refl _ _)) _) | exact HP.out _ (Kp.alloc (Kp.refl _ _) _) | exact HP.out _ hb | exact HP.out _ (Kp.alloc hb _) | fail)
    (first
      | (go_at_call 90; ((with_reducible refine (c1 _).mono ?_); rintro e x0 ⟨rfl, hk⟩; have hb : Nw (((w.alloc (.cells #[.int .i64 ax, .int .i64 ay] 23)).alloc (.cells #[.int .i64 bx, .int .i64 bz] 23)).alloc (.cells #[.int .i64 cx, .int .i64 cy] 23)) x0 := (Kp.drew (Kp.refl _ _)).tr hk))
      | (go_at_call 90; ((with_reducible refine (c2 _).mono ?_); rintro e x1 ⟨rfl, hk⟩; have hb : Nw (((w.alloc (.cells #[.int .i64 ax, .int .i64 ay] 23)).alloc (.cells #[.int .i64 bx, .int .i64 bz] 23)).alloc (.cells #[.int .i64 cx, .int .i64 cy] 23)) x1 := hb.tr hk))
      | (go_at_call 77; ((with_reducible refine (c3 _).mono ?_); rintro e x2 ⟨rfl, hk⟩; have hb : Nw (((w.alloc (.cells #[.int .i64 ax, .int .i64 ay] 23)).alloc (.cells #[.int .i64 bx, .int .i64 bz] 23)).alloc (.cells #[.int .i64 cx, .int .i64 cy] 23)) x2 := hb.tr hk))
      | (go_at_call 82; ((with_reducible refine (c4 _).mono ?_); rintro e x3 ⟨rfl, rfl⟩)))
  go_wp2
  go_ret
  exact ⟨rfl, (((nw_alloc _ _).alloc _).alloc _).tr hb⟩

set_option maxHeartbeats 1600000 in
theorem rnorm_any (ax ay : Int) (w : World) : Calls Tryd.prog 34 #[vV ax ay] w fun e w' => e = .returned (.int .i64 (normV ax ay)) ∧ Nw w w' := by
  have c1 := fun w1 => rabs_any ax w1
  have c2 := fun w1 => rabs_any ay w1
  unfold normV
  generalize absV ax = s at *
  generalize absV ay = t at *
  have hP : ∀ w' : World, Nw (w.alloc (.cells #[.int .i64 ax, .int .i64 ay] 23)) w' → w'.cell? (⟨w.heap.size, 0, none⟩ : Addr) = some (.int .i64 ax) ∧ w'.cell? (⟨w.heap.size, 1, none⟩ : Addr) = some (.int .i64 ay) := fun w' h => by
    obtain ⟨a0, b0, _, _⟩ := ((Blk.new_at w 23 #[.int .i64 ax, .int .i64 ay] (n := w.heap.size) (by simp)).kp h id).two
    exact ⟨a0, b0⟩
  have HP := Lib.hid hP
  clear hP
  go_enter Tryd.func34, Tryd.ntmps34
  go_wp2_with fail
  go_region_held3 (fun w' : World => w'.cell? (⟨w.heap.size, 0, none⟩ : Addr) = some (.int .i64 ax) ∧ w'.cell? (⟨w.heap.size, 1, none⟩ : Addr) = some (.int .i64 ay))
    (first | exact HP.out _ (Kp.refl _ _) | exact HP.out _ (Kp.drew (Kp.refl _ _)) | exact HP.out _ (Kp.alloc (Kp.drew (Kp.refl _ _)) _) | exact HP.out _ (Kp.alloc (Kp.refl _ _) _) | exact HP.out _ hb | exact HP.out _ (Kp.alloc hb _) | fail)
    (first
      | (go_at_call 48; ((with_reducible refine (c1 _).mono ?_); rintro e x0 ⟨rfl, rfl⟩))
      | (go_at_call 48; ((with_reducible refine (c2 _).mono ?_); rintro e x1 ⟨rfl, rfl⟩)))
  go_wp2
  all_goals (go_ret; exact ⟨ret_int (by first | rfl | omega), by repeat (first | exact Kp.refl _ _ | refine Kp.alloc ?_ _ | refine Kp.drew ?_ | refine Kp.drewN ?_ _)⟩)

set_option maxHeartbeats 3200000 in
theorem rturn_any (ax ay bx bz cx cy : Int) (w : World) : Calls Tryd.prog 50 #[vV ax ay, vV bx bz, vV cx cy] w fun e w' => e = .returned (.int .i64 (turnV ax ay bx bz cx cy)) ∧ Nw w w' := by
  have c1 := fun w1 => rsub_any bx bz ax ay w1
  have c2 := fun w1 => rsub_any cx cy ax ay w1
  have c3 := fun w1 => rcross_any (w64 (bx - ax)) (w64 (bz - ay)) (w64 (cx - ax)) (w64 (cy - ay)) w1
  have c4 := fun w1 => sign_any (crossV (w64 (bx - ax)) (w64 (bz - ay)) (w64 (cx - ax)) (w64 (cy - ay))) w1
  rw [turn_cross] at c4
  generalize turnV ax ay bx bz cx cy = r at *
  generalize crossV (w64 (bx - ax)) (w64 (bz - ay)) (w64 (cx - ax)) (w64 (cy - ay)) = s at *
  generalize w64 (bx - ax) = s1 at *
  generalize w64 (bz - ay) = s2 at *
  generalize w64 (cx - ax) = s3 at *
  generalize w64 (cy - ay) = s4 at *
  have hP : ∀ w' : World, Nw (((w.alloc (.cells #[.int .i64 ax, .int .i64 ay] 23)).alloc (.cells #[.int .i64 bx, .int .i64 bz] 23)).alloc (.cells #[.int .i64 cx, .int .i64 cy] 23)) w' → w'.cell? (⟨w.heap.size, 0, none⟩ : Addr) = some (.int .i64 ax) ∧ w'.cell? (⟨w.heap.size, 1, none⟩ : Addr) = some (.int .i64 ay) ∧ w'.cell? (⟨w.heap.size + 1, 0, none⟩ : Addr) = some (.int .i64 bx) ∧ w'.cell? (⟨w.heap.size + 1, 1, none⟩ : Addr) = some (.int .i64 bz) ∧ w'.cell? (⟨w.heap.size + 1 + 1, 0, none⟩ : Addr) = some (.int .i64 cx) ∧ w'.cell? (⟨w.heap.size + 1 + 1, 1, none⟩ : Addr) = some (.int .i64 cy) := fun w' h => by
    obtain ⟨a0, b0, _, _⟩ := ((((Blk.new_at w 23 #[.int .i64 ax, .int .i64 ay] (n := w.heap.size) (by simp)).alloc (.cells #[.int .i64 bx, .int .i64 bz] 23)).alloc (.cells #[.int .i64 cx, .int .i64 cy] 23)).kp h id).two
    obtain ⟨a1, b1, _, _⟩ := (((Blk.new_at (w.alloc (.cells #[.int .i64 ax, .int .i64 ay] 23)) 23 #[.int .i64 bx, .int .i64 bz] (n := w.heap.size + 1) (by simp)).alloc (.cells #[.int .i64 cx, .int .i64 cy] 23)).kp h id).two
    obtain ⟨a2, b2, _, _⟩ := ((Blk.new_at ((w.alloc (.cells #[.int .i64 ax, .int .i64 ay] 23)).alloc (.cells #[.int .i64 bx, .int .i64 bz] 23)) 23 #[.int .i64 cx, .int .i64 cy] (n := w.heap.size + 1 + 1) (by simp)).kp h id).two
    exact ⟨a0, b0, a1, b1, a2, b2⟩
  have HP := Lib.hid hP
  clear hP
  go_enter Tryd.func50, Tryd.ntmps50
  go_wp2_with fail
  go_region_held3 (fun w' : World => w'.cell? (⟨w.heap.size, 0, none⟩ : Addr) = some (.int .i64 ax) ∧ w'.cell? (⟨w.heap.size, 1, none⟩ : Addr) = some (.int .i64 ay) ∧ w'.cell? (⟨w.heap.size + 1, 0, none⟩ : Addr) = some (.int .i64 bx) ∧ w'.cell? (⟨w.heap.size + 1, 1, none⟩ : Addr) = some (.int .i64 bz) ∧ w'.cell? (⟨w.heap.size + 1 + 1, 0, none⟩ : Addr) = some (.int .i64 cx) ∧ w'.cell? (⟨w.heap.size + 1 + 1, 1, none⟩ : Addr) = some (.int .i64 cy))
    (first | exact HP.out _ (Kp.refl _ _) | exact HP.out _ (Kp.drew (Kp.refl _ _)) | exact HP.out _ (Kp.alloc (Kp.drew (Kp.refl _ _)) _) | exact HP.out _ (Kp.alloc (Kp.refl _ _) _) | exact HP.out _ hb | exact HP.out _ (Kp.alloc hb _) | fail)
    (first
      | (go_at_call 68; ((with_reducible refine (c1 _).mono ?_); rintro e x0 ⟨rfl, hk⟩; have hb : Nw (((w.alloc (.cells #[.int .i64 ax, .int .i64 ay] 23)).alloc (.cells #[.int .i64 bx, .int .i64 bz] 23)).alloc (.cells #[.int .i64 cx, .int .i64 cy] 23)) x0 := (Kp.drew (Kp.refl _ _)).tr hk))
      | (go_at_call 68; ((with_reducible refine (c2 _).mono ?_); rintro e x1 ⟨rfl, hk⟩; have hb : Nw (((w.alloc (.cells #[.int .i64 ax, .int .i64 ay] 23)).alloc (.cells #[.int .i64 bx, .int .i64 bz] 23)).alloc (.cells #[.int .i64 cx, .int .i64 cy] 23)) x1 := hb.tr hk))
      | (go_at_call 33; ((with_reducible refine (c3 _).mono ?_); rintro e x2 ⟨rfl, hk⟩; have hb : Nw (((w.alloc (.cells #[.int .i64 ax, .int .i64 ay] 23)).alloc (.cells #[.int .i64 bx, .int .i64 bz] 23)).alloc (.cells #[.int .i64 cx, .int .i64 cy] 23)) x2 := hb.tr hk))
      | (go_at_call 67; ((with_reducible refine (c4 _).mono ?_); rintro e x3 ⟨rfl, rfl⟩)))
  go_wp2
  go_ret
  exact ⟨rfl, (((nw_alloc _ _).alloc _).alloc _).tr hb⟩

end Go.Proofs.YtahamffngmdjfaaDoor.W
