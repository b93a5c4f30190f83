/-
  ring: WherePoint and Where: what they return. Condition: the list is not longer than 2^40.
-/
import Derived.Test.YtahamffngmdjfaaDoorK28
import Derived.Test.YtahamffngmdjfaaDoorK25
import Derived.Test.YtahamffngmdjfaaDoorK13
namespace Go.Proofs.YtahamffngmdjfaaDoor.W
open Go.RowKit Go.Proofs.YtahamffngmdjfaaDoor.V Go.Proofs.YtahamffngmdjfaaDoor.G


theorem anyOn_snoc (l : List Ed) (e : Ed) (x y d : Int) : anyOn (l ++ [e]) x y d = (anyOn l x y d || onP e x y d) := by unfold anyOn; simp
theorem countP_snoc (l : List Ed) (e : Ed) (x y d : Int) : ((countP (l ++ [e]) x y d : Nat) : Int) = (countP l x y d : Int) + if crossesP e x y d then 1 else 0 := by
  unfold countP
  rw [List.filter_append, List.length_append]
  cases h : crossesP e x y d <;> simp [h]
theorem countP_le (l : List Ed) (x y d : Int) : countP l x y d ≤ l.length := List.length_filter_le _ _
theorem edge_ok {l : List Pt} (hw : allW l = true) {i : Nat} (hi : i < l.length) : wOk (edgeP l i).1 = true ∧ wOk (edgeP l i).2 = true :=
  ⟨allTo_iff.1 hw i hi, allTo_iff.1 hw _ (Nat.mod_lt _ (by omega))⟩
theorem valid_w {l : List Pt} (h : validR l = true) : allW l = true := by
  unfold validR at h
  simp only [Bool.and_eq_true] at h
  exact h.1.1.1.2

end Go.Proofs.YtahamffngmdjfaaDoor.W
