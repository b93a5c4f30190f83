/-
  ring: the reference's Valid: it returns what the program's does. Condition: the list is not longer than 2^40.
-/
import Derived.Test.YthifljljaejfmaaJ27
import Derived.Test.YthifljljaejfmaaJ28
import Derived.Test.YthifljljaejfmaaJ21
import Derived.Test.YthifljljaejfmaaJ31
namespace Go.Proofs.Ythifljljaejfmaa.W
open Go.RowKit Go.Proofs.Ythifljljaejfmaa.V Go.Proofs.Ythifljljaejfmaa.G


end Go.Proofs.Ythifljljaejfmaa.W
