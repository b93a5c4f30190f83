/-
  The table of the quarter turns as the row lists it. Condition: the row's own.
-/
import Derived.Test.YtahamffngmdjfaaDoorRows
import Derived.Test.YtahamffngmdjfaaDoorTie
import Derived.Test.YtahamffngmdjfaaDoorCards
import Derived.Test.YtahamffngmdjfaaDoorYP
import Derived.Test.YtahamffngmdjfaaDoorVW
import Derived.LaidMore
import Derived.LaidHandle
import Derived.Lib.LaidTab
import Derived.SevenTiedAt
import Derived.ChangeMaps5
import Derived.MakeChecks
namespace Go.Proofs.YtahamffngmdjfaaDoor.W
open Go.ChangeShapes Go.WideShapes Go.RowKit Go.Proofs.YtahamffngmdjfaaDoor.V Go.Proofs.YtahamffngmdjfaaDoor.G

abbrev laidQ : List (String × DataW Unit) := Rows.symmetryVecRow.laid
abbrev turnName : String := (laidQ.map (·.1)).head!
/-- the coefficients of the quarter turns, one cell after the other -/
def turnC : Array Value := #[.int .i64 1, .int .i64 0, .int .i64 0, .int .i64 1, .int .i64 0, .int .i64 (-1), .int .i64 1, .int .i64 0, .int .i64 (-1), .int .i64 0, .int .i64 0, .int .i64 (-1), .int .i64 0, .int .i64 1, .int .i64 (-1), .int .i64 0]
/-- the variable holds them -/
def TabQ (w : World) : Prop := w.var? Tryd.prog turnName = some turnC
theorem gTurn : Tryd.prog.globalNamed turnName = some 0 := by kernel_rfl
theorem tTurn : (Tryd.prog.globals[0]?).map (·.type) = some 55 := by kernel_rfl
theorem c4 : Tryd.prog.cellsOf 54 = 4 := by kernel_rfl
theorem c2 : Tryd.prog.cellsOf 53 = 2 := by kernel_rfl
theorem c1 : Tryd.prog.cellsOf 3 = 1 := by kernel_rfl
theorem c16 : Tryd.prog.cellsOf 55 = 16 := by kernel_rfl
section
variable {H : Type} {enc : TypeId × Value → H} {w : World} {base : Nat} {held : Bool}
theorem trod_two {n : Nat} {cs : List Value} {a b : Int} {p : List MemPlace} (h : DataW.trod enc Tryd.prog w base (fun _ => true) held n 53 cs = some (.agg [.lit (.int .i64 a), .lit (.int .i64 b)], p)) : cs = [.int .i64 a, .int .i64 b] := by
  have h' := @Lib.cells_of_tab H enc Tryd.prog w base (fun _ => true) held n 53 3 2 .i64 cs [a, b] p Tryd.underlying53 Tryd.underlying3 c1 c2 h
  simpa using h'
theorem trod_four {n : Nat} {cs : List Value} {a b c d : Int} {p : List MemPlace} (h : DataW.trod enc Tryd.prog w base (fun _ => true) held n 54 cs = some (.agg [.agg [.lit (.int .i64 a), .lit (.int .i64 b)], .agg [.lit (.int .i64 c), .lit (.int .i64 d)]], p)) : cs = [.int .i64 a, .int .i64 b, .int .i64 c, .int .i64 d] := by
  cases n with
  | zero => simp [DataW.trod] at h
  | succ n =>
    simp only [DataW.trod, Tryd.underlying54, c2, c4] at h
    split at h
    · rename_i hl
      obtain ⟨xs, hm, hx⟩ := Option.map_eq_some_iff.1 h
      have hxs := congrArg Prod.fst hx
      simp only [DataW.agg.injEq] at hxs
      match cs, hl with
      | [e0, e1, e2, e3], _ =>
        have hxl : xs.length = 2 := by simpa using congrArg List.length hxs
        match xs, hxl with
        | [x0, x1], _ =>
          simp only [List.map_cons, List.map_nil, List.cons.injEq, and_true] at hxs
          obtain ⟨h0, h1⟩ := hxs
          obtain ⟨b0, hb0, hf0⟩ := Lib.mapM_at hm 0 0 rfl
          obtain ⟨b1, hb1, hf1⟩ := Lib.mapM_at hm 1 1 rfl
          obtain rfl : x0 = b0 := Option.some.inj hb0
          obtain rfl : x1 = b1 := Option.some.inj hb1
          obtain ⟨x0a, x0b⟩ := x0
          obtain ⟨x1a, x1b⟩ := x1
          obtain rfl : x0a = _ := h0
          obtain rfl : x1a = _ := h1
          have g0 := trod_two hf0
          have g1 := trod_two hf1
          simp at g0 g1
          obtain ⟨rfl, rfl⟩ := g0
          obtain ⟨rfl, rfl⟩ := g1
          rfl
    · cases h
theorem trod_turns {n : Nat} {cs : List Value} {p : List MemPlace} (h : DataW.trod enc Tryd.prog w base (fun _ => true) held n 55 cs = some (Rows.laid_fretsaw_symmetry_quarterTurns, p)) : cs = turnC.toList := by
  cases n with
  | zero => simp [DataW.trod] at h
  | succ n =>
    simp only [DataW.trod, Tryd.underlying55, c4, c16] at h
    split at h
    · rename_i hl
      obtain ⟨xs, hm, hx⟩ := Option.map_eq_some_iff.1 h
      have hxs := congrArg Prod.fst hx
      simp only [Rows.laid_fretsaw_symmetry_quarterTurns, DataW.agg.injEq] at hxs
      match cs, hl with
      | [e0, e1, e2, e3, e4, e5, e6, e7, e8, e9, e10, e11, e12, e13, e14, e15], _ =>
        have hxl : xs.length = 4 := by simpa using congrArg List.length hxs
        match xs, hxl with
        | [x0, x1, x2, x3], _ =>
          simp only [List.map_cons, List.map_nil, List.cons.injEq, and_true] at hxs
          obtain ⟨h0, h1, h2, h3⟩ := hxs
          obtain ⟨b0, hb0, hf0⟩ := Lib.mapM_at hm 0 0 rfl
          obtain ⟨b1, hb1, hf1⟩ := Lib.mapM_at hm 1 1 rfl
          obtain ⟨b2, hb2, hf2⟩ := Lib.mapM_at hm 2 2 rfl
          obtain ⟨b3, hb3, hf3⟩ := Lib.mapM_at hm 3 3 rfl
          obtain rfl : x0 = b0 := Option.some.inj hb0
          obtain rfl : x1 = b1 := Option.some.inj hb1
          obtain rfl : x2 = b2 := Option.some.inj hb2
          obtain rfl : x3 = b3 := Option.some.inj hb3
          obtain ⟨x0a, x0b⟩ := x0
          obtain ⟨x1a, x1b⟩ := x1
          obtain ⟨x2a, x2b⟩ := x2
          obtain ⟨x3a, x3b⟩ := x3
          obtain rfl : x0a = _ := h0
          obtain rfl : x1a = _ := h1
          obtain rfl : x2a = _ := h2
          obtain rfl : x3a = _ := h3
          have g0 := trod_four hf0
          have g1 := trod_four hf1
          have g2 := trod_four hf2
          have g3 := trod_four hf3
          simp at g0 g1 g2 g3
          obtain ⟨rfl, rfl, rfl, rfl⟩ := g0
          obtain ⟨rfl, rfl, rfl, rfl⟩ := g1
          obtain ⟨rfl, rfl, rfl, rfl⟩ := g2
          obtain ⟨rfl, rfl, rfl, rfl⟩ := g3
          rfl
    · cases h
end
theorem tabQ_of {W : World} (h : laidMetH Tryd.prog laidQ W) : TabQ W := by
  rw [MakeChecks.laidMetH_plain _ _ _ (by kernel_rfl)] at h
  obtain ⟨ps, ⟨g', t', cs, fuel, p, q, hg', ht', hvar, hd, _, _⟩, _⟩ := (show laidMet Tryd.prog ((turnName, Rows.laid_fretsaw_symmetry_quarterTurns) :: []) W from h)
  obtain rfl := Option.some.inj (gTurn.symm.trans hg')
  obtain rfl := Option.some.inj (tTurn.symm.trans ht')
  unfold TabQ
  rw [hvar]
  have := trod_turns hd
  congr 1
  exact Array.ext' (by simpa using this)
theorem doorQ_met (os : Os) (args : Array Value) : laidMetH Tryd.prog laidQ ((World.doorLaid Tryd.prog 114 os).forCall (fun _ _ => 0) ⟨#[], args, []⟩).memory :=
  laidMetH_of_parts3 (fuel := 8) (laidMet_of_run' 8 (by kernel_rfl) (by kernel_rfl)) (by kernel_rfl) (by kernel_rfl)
theorem TabQ.lt {w : World} (h : TabQ w) : 0 < w.heap.size := by
  unfold TabQ World.var? at h
  rw [gTurn] at h
  simp only [Option.bind_some] at h
  rcases Nat.lt_or_ge 0 w.heap.size with h1 | h1
  · exact h1
  · rw [Array.getElem?_eq_none h1] at h
    simp at h
/-- what a call leaves as it was, it leaves the table too -/
theorem TabQ.nw {w w' : World} (h : TabQ w) (hk : Nw w w') : TabQ w' := by
  have hlt := h.lt
  unfold TabQ World.var? at h ⊢
  rw [gTurn] at h ⊢
  simp only [Option.bind_some] at h ⊢
  rw [hk.block _ hlt fun e => e]
  exact h
theorem TabQ.cell {w : World} (h : TabQ w) (i : Nat) : w.cell? ⟨0, i, none⟩ = turnC[i]? := World.var?_cell gTurn h i
end Go.Proofs.YtahamffngmdjfaaDoor.W
