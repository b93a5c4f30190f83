/-
  The library's functions that vec calls, laid at this program.
-/
import Derived.Shelf.SlSortCmp.NoneTotal
import Derived.Shelf.SlicesE.Clone
import Derived.Shelf.Lay
import Derived.Shelf.LaySoft
import Derived.Ground.SlsfProg
import Derived.Ground.SlgnProg
import Derived.Test.YtahamffngmdjfaaDoorChecked
namespace Go.Proofs
open Go.Shelf
shelf_tried
end Go.Proofs
