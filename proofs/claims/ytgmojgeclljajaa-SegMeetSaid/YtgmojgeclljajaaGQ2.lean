/-
  A guard that looks at an operation that was not carried out. No condition.
-/
import Derived.Test.YtgmojgeclljajaaGQ
namespace Go.Proofs.Ytgmojgeclljajaa.W
theorem none_some {A B : Prop} {b : Bool} [inst : Decidable ((none : Option Bool) = some b)] (h : B) : @ite Prop ((none : Option Bool) = some b) inst A B := by
  rw [if_neg (by simp)]
  exact h
end Go.Proofs.Ytgmojgeclljajaa.W
