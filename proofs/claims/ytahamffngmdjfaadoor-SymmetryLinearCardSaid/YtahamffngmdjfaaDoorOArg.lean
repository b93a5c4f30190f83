/-
  An argument that is a ring: a list of vectors in memory. No condition.
-/
import Derived.Test.YtahamffngmdjfaaDoorVArh
namespace Go.Proofs.YtahamffngmdjfaaDoor.W
open Go.ChangeShapes Go.WideShapes Go.ChangeAt Go.RowKit Go.Joins Go.Deep Go.Proofs.YtahamffngmdjfaaDoor.V

set_option maxRecDepth 100000
section
variable {H : Type} {enc : TypeId × Value → H} {W : World} {base : Nat} {v : Value} {d : DataW H} {p : List MemPlace}
theorem open_ring64 (hv : Value.okWide Tryd.prog W .any base 35 v) (h : DataW.Trod enc Tryd.prog W 0 (fun _ => true) true 35 v d p) :
    ∃ l : List (Int × Int), SrcV W v l ∧ (∀ x ∈ l, I64 x.1 ∧ I64 x.2) ∧ (l = [] ∨ ∃ es sp, d = .slice es sp ∧ es.length = l.length) :=
  openRows (P := fun x => I64 x.1 ∧ I64 x.2) Tryd.underlying35 cellsOfVec (by omega) (f := vC) (fun _ => rfl) (fun n cs y h => trod_vec64 h) hv h
end
end Go.Proofs.YtahamffngmdjfaaDoor.W
