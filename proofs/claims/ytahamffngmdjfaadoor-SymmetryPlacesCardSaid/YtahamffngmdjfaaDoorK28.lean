/-
  ring: the closure of WherePoint: what it does to the count and to the mark. Conditions: the edge is within 2000, the point is valid.
-/
import Derived.Test.YtahamffngmdjfaaDoorK25
import Derived.Test.YtahamffngmdjfaaDoorK15
namespace Go.Proofs.YtahamffngmdjfaaDoor.W
open Go.RowKit Go.Proofs.YtahamffngmdjfaaDoor.V Go.Proofs.YtahamffngmdjfaaDoor.G


end Go.Proofs.YtahamffngmdjfaaDoor.W
