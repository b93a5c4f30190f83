/-
  The reference's Sorted: the list in ascending order, each vector once. Condition: the list is not longer than a slice may be.
-/
import Derived.Test.YthifljljaejfmaaJ26
import Derived.Test.YthifljljaejfmaaJ27
import Derived.BigRegion
import Derived.Test.YthifljljaejfmaaJ04
namespace Go.Proofs.Ythifljljaejfmaa.W
open Go.RowKit Go.Proofs.Ythifljljaejfmaa.V

end Go.Proofs.Ythifljljaejfmaa.W
