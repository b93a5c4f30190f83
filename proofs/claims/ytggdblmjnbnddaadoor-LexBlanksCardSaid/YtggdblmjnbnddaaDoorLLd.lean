/-
  What the row lists of package-level variables, for the walks: the table of the powers of ten. Condition: the row's own.
-/
import Derived.Test.YtggdblmjnbnddaaDoorFrame
import Derived.Test.YtggdblmjnbnddaaDoorTie
import Derived.Test.YtggdblmjnbnddaaDoorCards
import Derived.Test.YtggdblmjnbnddaaDoorHB
import Derived.LaidMore
import Derived.LaidHandle
import Derived.Lib.LaidTab
import Derived.Lib.ItoaNum
import Derived.Stop.LaidErr
import Derived.MakeChecks
import Derived.SevenTiedAt
import Derived.ChangeMaps5
namespace Go.Proofs.YtggdblmjnbnddaaDoor.W
open Go.ChangeShapes Go.WideShapes Go.ChangeAt Go.RowKit

abbrev laid5 : List (String × DataW Unit) := Rows.lexTokensRow.laid
theorem door_met (os : Os) (args : Array Value) : laidMetH Tryd.prog laid5 ((World.doorLaid Tryd.prog 62 os).forCall (fun _ _ => 0) ⟨#[], args, []⟩).memory :=
  laidMetH_of_parts3 (fuel := 8) (laidMet_of_run' 8 (by kernel_rfl) (by kernel_rfl)) (by kernel_rfl) (by kernel_rfl)

/-- the name of the table of the powers of ten: the third variable that the row lists -/
abbrev powName : String := (laid5.drop 2).head!.1
/-- the table of the powers of ten -/
abbrev Tab (w : World) : Prop := Lib.TabIs Tryd.prog w powName .u64 Lib.pow10Tab
theorem gPow : Tryd.prog.globalNamed powName = some 1 := by kernel_rfl
theorem tPow : (Tryd.prog.globals[1]?).map (·.type) = some 91 := by kernel_rfl
theorem cPow : Tryd.prog.cellsOf 91 = 20 := by kernel_rfl
theorem cU64 : Tryd.prog.cellsOf 61 = 1 := by kernel_rfl
theorem powData : (Rows.laid_internal_strconv_uint64pow10 : DataW Unit) = Lib.tabData .u64 Lib.pow10Tab := by kernel_rfl
theorem tab_of {W : World} (h : laidMetH Tryd.prog laid5 W) : Tab W := by
  rw [MakeChecks.laidMetH_plain _ _ _ (by kernel_rfl)] at h
  have h2 : laidMet Tryd.prog ((powName, Rows.laid_internal_strconv_uint64pow10) :: laid5.drop 3) W := (show laidMet Tryd.prog (_ :: _ :: _) W from h).tail.tail
  rw [powData] at h2
  exact Lib.tabIs_of_head gPow tPow Tryd.underlying91 Tryd.underlying61 cU64 cPow h2
/-- what a call leaves as it was, it leaves the table too -/
theorem Tab.nw {w w' : World} (h : Tab w) (hk : Nw w w') : Tab w' := by
  unfold Tab Lib.TabIs World.var? at h ⊢
  rw [gPow] at h ⊢
  simp only [Option.bind_some] at h ⊢
  have hlt : 1 < w.heap.size := by
    rcases Nat.lt_or_ge 1 w.heap.size with h1 | h1
    · exact h1
    · rw [Array.getElem?_eq_none h1] at h
      simp at h
  rw [hk.block _ hlt fun e => e]
  exact h
end Go.Proofs.YtggdblmjnbnddaaDoor.W
