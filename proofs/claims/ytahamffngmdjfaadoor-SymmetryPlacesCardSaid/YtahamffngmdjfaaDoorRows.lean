/-
  NARROWER THAN 'FOR EVERY INPUT', by the rows' own cells (each row's printed sentence says how): SymmetryVec: laid · SymmetryThen: laid · SymmetryRing: laid · SymmetryGroup: laid · SymmetryLinear: laid · SymmetryPlaces: laid.
  DERIVED. THE GIVEN ROWS OF THIS SEAT. 6 by the template 'for every input the law returns true; each argument reads behind the call as it read before'; 0 by the template 'total and deterministic' (their statements: YtahamffngmdjfaaDoorTotals.lean).
  GIVEN WITH THE SEED: the statements are not yours to turn. If you find one false, say at which input.
  Laid BY PROGRAM, IN A SANDBOX (cutbox-rows.mjs): the forced cells as the released guide's own fill.sh prints them over the translation 8a977d2244e0829d… (all of the seat's roots in one cut). By AI agents, Wed Nov 11 2026. No macro, syntax, notation, axiom, sorry.
-/
import Derived.Test.YtahamffngmdjfaaDoorChecked
import GoSem.Claim
import GoSem.ClaimJoined
import GoSem.ClaimMapViews
import Derived.JoinedTies
import Derived.KernelRfl
namespace Go.Proofs.YtahamffngmdjfaaDoor
/- THE CELL 'sum', in the pinned program and in every row, IS THE sha256 OF THE DUMP (.gsa) THAT YtahamffngmdjfaaDoorProg.lean LOADS. Nothing in Lean hashes anything: it is a label: what it is worth is what the hold of that sum in a sandbox is worth. -/
noncomputable def Tryd.pinned : Pinned := { name := "ytahamffngmdjfaadoor", sum := "8a977d2244e0829d1a122b145797e49db842577af6f59ed00a0d7326f38719dd", checked := Tryd.checked }
namespace Rows
def none {H : Type} : Left H := { results := [], args := [] }

/- WHAT THE LISTED PACKAGE-LEVEL VARIABLES READ AS WHEN THE CALL BEGINS. Each datum BY PROGRAM (the guide's laid-datum.mjs) off the statement by which the dump's own 'gosem.cut.vars' lays the variable. In a bare row this is a premise. The card (YtahamffngmdjfaaDoorCards.lean) ties it to the program's text. -/
def laid_fretsaw_symmetry_quarterTurns {H : Type} : DataW H := .agg [.agg [.agg [.lit (.int .i64 1), .lit (.int .i64 0)], .agg [.lit (.int .i64 0), .lit (.int .i64 1)]], .agg [.agg [.lit (.int .i64 0), .lit (.int .i64 (-1))], .agg [.lit (.int .i64 1), .lit (.int .i64 0)]], .agg [.agg [.lit (.int .i64 (-1)), .lit (.int .i64 0)], .agg [.lit (.int .i64 0), .lit (.int .i64 (-1))]], .agg [.agg [.lit (.int .i64 0), .lit (.int .i64 1)], .agg [.lit (.int .i64 (-1)), .lit (.int .i64 0)]]]

/-- 'fretsawlaw09.SymmetryVec': WHATEVER THE INPUT: true; the input reads as it did. -/
def symmetryVecSpec : ChangeSpec := { name := "symmetryVec", fn := fun _ => fun
  | [d1, d2, d3] => { results := [.lit (.bool true)], args := [d1, d2, d3] }
  | _ => none }
def symmetryVecRow : OpenClaim := { program := "ytahamffngmdjfaadoor", sum := "8a977d2244e0829d1a122b145797e49db842577af6f59ed00a0d7326f38719dd", func := "fretsaw/fretsawlaw09.SymmetryVec", spec := "symmetryVec", named := ["fretsaw/symmetry.quarterTurns"], apart := false, laid := [("fretsaw/symmetry.quarterTurns", laid_fretsaw_symmetry_quarterTurns)] }
def SymmetryVecSaid : Prop := symmetryVecRow.holds Tryd.pinned (OpenSpec.ofChange symmetryVecSpec)

/-- ITS FALSE NEIGHBOUR: 'it returns false'. Refute it at one input. -/
def symmetryVecWrong : ChangeSpec := { name := "symmetryVec", fn := fun _ => fun
  | [d1, d2, d3] => { results := [.lit (.bool false)], args := [d1, d2, d3] }
  | _ => none }
def SymmetryVecWrongFalsely : Prop := symmetryVecRow.holds Tryd.pinned (OpenSpec.ofChange symmetryVecWrong)

/-- 'fretsawlaw09.SymmetryThen': WHATEVER THE INPUT: true; the input reads as it did. -/
def symmetryThenSpec : ChangeSpec := { name := "symmetryThen", fn := fun _ => fun
  | [d1, d2] => { results := [.lit (.bool true)], args := [d1, d2] }
  | _ => none }
def symmetryThenRow : OpenClaim := { program := "ytahamffngmdjfaadoor", sum := "8a977d2244e0829d1a122b145797e49db842577af6f59ed00a0d7326f38719dd", func := "fretsaw/fretsawlaw09.SymmetryThen", spec := "symmetryThen", named := ["fretsaw/symmetry.quarterTurns"], apart := false, laid := [("fretsaw/symmetry.quarterTurns", laid_fretsaw_symmetry_quarterTurns)] }
def SymmetryThenSaid : Prop := symmetryThenRow.holds Tryd.pinned (OpenSpec.ofChange symmetryThenSpec)

/-- ITS FALSE NEIGHBOUR: 'it returns false'. Refute it at one input. -/
def symmetryThenWrong : ChangeSpec := { name := "symmetryThen", fn := fun _ => fun
  | [d1, d2] => { results := [.lit (.bool false)], args := [d1, d2] }
  | _ => none }
def SymmetryThenWrongFalsely : Prop := symmetryThenRow.holds Tryd.pinned (OpenSpec.ofChange symmetryThenWrong)

/-- 'fretsawlaw09.SymmetryRing': WHATEVER THE INPUT: true; the input reads as it did. -/
def symmetryRingSpec : ChangeSpec := { name := "symmetryRing", fn := fun _ => fun
  | [d1, d2] => { results := [.lit (.bool true)], args := [d1, d2] }
  | _ => none }
def symmetryRingRow : OpenClaim := { program := "ytahamffngmdjfaadoor", sum := "8a977d2244e0829d1a122b145797e49db842577af6f59ed00a0d7326f38719dd", func := "fretsaw/fretsawlaw09.SymmetryRing", spec := "symmetryRing", unfollowed := true, recurses := true, named := ["fretsaw/symmetry.quarterTurns"], apart := false, laid := [("fretsaw/symmetry.quarterTurns", laid_fretsaw_symmetry_quarterTurns)] }
def SymmetryRingSaid : Prop := symmetryRingRow.holds Tryd.pinned (OpenSpec.ofChange symmetryRingSpec)

/-- ITS FALSE NEIGHBOUR: 'it returns false'. Refute it at one input. -/
def symmetryRingWrong : ChangeSpec := { name := "symmetryRing", fn := fun _ => fun
  | [d1, d2] => { results := [.lit (.bool false)], args := [d1, d2] }
  | _ => none }
def SymmetryRingWrongFalsely : Prop := symmetryRingRow.holds Tryd.pinned (OpenSpec.ofChange symmetryRingWrong)

/-- 'fretsawlaw09.SymmetryGroup': WHATEVER THE INPUT: true; the input reads as it did. -/
def symmetryGroupSpec : ChangeSpec := { name := "symmetryGroup", fn := fun _ => fun
  | [d1, d2] => { results := [.lit (.bool true)], args := [d1, d2] }
  | _ => none }
def symmetryGroupRow : OpenClaim := { program := "ytahamffngmdjfaadoor", sum := "8a977d2244e0829d1a122b145797e49db842577af6f59ed00a0d7326f38719dd", func := "fretsaw/fretsawlaw09.SymmetryGroup", spec := "symmetryGroup", named := ["fretsaw/symmetry.quarterTurns"], apart := false, laid := [("fretsaw/symmetry.quarterTurns", laid_fretsaw_symmetry_quarterTurns)] }
def SymmetryGroupSaid : Prop := symmetryGroupRow.holds Tryd.pinned (OpenSpec.ofChange symmetryGroupSpec)

/-- ITS FALSE NEIGHBOUR: 'it returns false'. Refute it at one input. -/
def symmetryGroupWrong : ChangeSpec := { name := "symmetryGroup", fn := fun _ => fun
  | [d1, d2] => { results := [.lit (.bool false)], args := [d1, d2] }
  | _ => none }
def SymmetryGroupWrongFalsely : Prop := symmetryGroupRow.holds Tryd.pinned (OpenSpec.ofChange symmetryGroupWrong)

/-- 'fretsawlaw09.SymmetryLinear': WHATEVER THE INPUT: true; the input reads as it did. -/
def symmetryLinearSpec : ChangeSpec := { name := "symmetryLinear", fn := fun _ => fun
  | [d1, d2, d3] => { results := [.lit (.bool true)], args := [d1, d2, d3] }
  | _ => none }
def symmetryLinearRow : OpenClaim := { program := "ytahamffngmdjfaadoor", sum := "8a977d2244e0829d1a122b145797e49db842577af6f59ed00a0d7326f38719dd", func := "fretsaw/fretsawlaw09.SymmetryLinear", spec := "symmetryLinear", named := ["fretsaw/symmetry.quarterTurns"], apart := false, laid := [("fretsaw/symmetry.quarterTurns", laid_fretsaw_symmetry_quarterTurns)] }
def SymmetryLinearSaid : Prop := symmetryLinearRow.holds Tryd.pinned (OpenSpec.ofChange symmetryLinearSpec)

/-- ITS FALSE NEIGHBOUR: 'it returns false'. Refute it at one input. -/
def symmetryLinearWrong : ChangeSpec := { name := "symmetryLinear", fn := fun _ => fun
  | [d1, d2, d3] => { results := [.lit (.bool false)], args := [d1, d2, d3] }
  | _ => none }
def SymmetryLinearWrongFalsely : Prop := symmetryLinearRow.holds Tryd.pinned (OpenSpec.ofChange symmetryLinearWrong)

/-- 'fretsawlaw09.SymmetryPlaces': WHATEVER THE INPUT: true; the input reads as it did. -/
def symmetryPlacesSpec : ChangeSpec := { name := "symmetryPlaces", fn := fun _ => fun
  | [d1, d2, d3] => { results := [.lit (.bool true)], args := [d1, d2, d3] }
  | _ => none }
def symmetryPlacesRow : OpenClaim := { program := "ytahamffngmdjfaadoor", sum := "8a977d2244e0829d1a122b145797e49db842577af6f59ed00a0d7326f38719dd", func := "fretsaw/fretsawlaw09.SymmetryPlaces", spec := "symmetryPlaces", unfollowed := true, recurses := true, named := ["fretsaw/symmetry.quarterTurns"], apart := false, laid := [("fretsaw/symmetry.quarterTurns", laid_fretsaw_symmetry_quarterTurns)] }
def SymmetryPlacesSaid : Prop := symmetryPlacesRow.holds Tryd.pinned (OpenSpec.ofChange symmetryPlacesSpec)

/-- ITS FALSE NEIGHBOUR: 'it returns false'. Refute it at one input. -/
def symmetryPlacesWrong : ChangeSpec := { name := "symmetryPlaces", fn := fun _ => fun
  | [d1, d2, d3] => { results := [.lit (.bool false)], args := [d1, d2, d3] }
  | _ => none }
def SymmetryPlacesWrongFalsely : Prop := symmetryPlacesRow.holds Tryd.pinned (OpenSpec.ofChange symmetryPlacesWrong)

/- THE SECOND FORM. 'bulk': how many values and letters a reading holds, each counted each time it is reached (what is shared counts as often as it is met; a slice's spare places count too). A statement '..UptoSaid' is the law's where the arguments, and the package variables that the reading takes, are together of bulk at most 1048576: NARROWER than '..Said'. Prove '..Said' where nothing that the law and all that it calls make is longer than what came in: it says more and counts as full. Else prove '..UptoSaid'. A law counts once. -/
mutual
def uptoBulk {H : Type} : DataW H → Nat
  | .lit (.string bytes) => bytes.length + 1
  | .lit _ => 1
  | .nil => 1
  | .ptr d => uptoBulk d + 1
  | .slice elems spare => uptoBulkAll elems + uptoBulkAll spare + 1
  | .agg parts => uptoBulkAll parts + 1
  | .iface _ d => uptoBulk d + 1
  | .map entries => uptoBulkEntries entries + 1
  | .held _ => 1
def uptoBulkAll {H : Type} : List (DataW H) → Nat
  | [] => 0
  | d :: r => uptoBulk d + uptoBulkAll r
def uptoBulkEntries {H : Type} : List (Lit × DataW H) → Nat
  | [] => 0
  | x :: r => uptoBulkEntry x + uptoBulkEntries r
def uptoBulkEntry {H : Type} : Lit × DataW H → Nat
  | (.string bytes, d) => bytes.length + uptoBulk d + 1
  | (_, d) => uptoBulk d + 1
 end
def uptoSmall : (H : Type) → List (DataW H) → Bool := fun _ ds => decide (uptoBulkAll ds ≤ 1048576)
def OpenSpec.upto (s : _root_.Go.ChangeSpec) : _root_.Go.OpenSpec := { _root_.Go.OpenSpec.ofChange s with cond := some uptoSmall }

/-- 'fretsawlaw09.SymmetryVec', WHERE WHAT IT READS IS OF BULK AT MOST 1048576: true; the input reads as it did. -/
def symmetryVecUptoRow : OpenClaim := { program := "ytahamffngmdjfaadoor", sum := "8a977d2244e0829d1a122b145797e49db842577af6f59ed00a0d7326f38719dd", func := "fretsaw/fretsawlaw09.SymmetryVec", spec := "symmetryVec", named := ["fretsaw/symmetry.quarterTurns"], apart := false, laid := [("fretsaw/symmetry.quarterTurns", laid_fretsaw_symmetry_quarterTurns)], narrowed := true }
def SymmetryVecUptoSaid : Prop := symmetryVecUptoRow.holds Tryd.pinned (OpenSpec.upto symmetryVecSpec)

/-- 'fretsawlaw09.SymmetryThen', WHERE WHAT IT READS IS OF BULK AT MOST 1048576: true; the input reads as it did. -/
def symmetryThenUptoRow : OpenClaim := { program := "ytahamffngmdjfaadoor", sum := "8a977d2244e0829d1a122b145797e49db842577af6f59ed00a0d7326f38719dd", func := "fretsaw/fretsawlaw09.SymmetryThen", spec := "symmetryThen", named := ["fretsaw/symmetry.quarterTurns"], apart := false, laid := [("fretsaw/symmetry.quarterTurns", laid_fretsaw_symmetry_quarterTurns)], narrowed := true }
def SymmetryThenUptoSaid : Prop := symmetryThenUptoRow.holds Tryd.pinned (OpenSpec.upto symmetryThenSpec)

/-- 'fretsawlaw09.SymmetryRing', WHERE WHAT IT READS IS OF BULK AT MOST 1048576: true; the input reads as it did. -/
def symmetryRingUptoRow : OpenClaim := { program := "ytahamffngmdjfaadoor", sum := "8a977d2244e0829d1a122b145797e49db842577af6f59ed00a0d7326f38719dd", func := "fretsaw/fretsawlaw09.SymmetryRing", spec := "symmetryRing", unfollowed := true, recurses := true, named := ["fretsaw/symmetry.quarterTurns"], apart := false, laid := [("fretsaw/symmetry.quarterTurns", laid_fretsaw_symmetry_quarterTurns)], narrowed := true }
def SymmetryRingUptoSaid : Prop := symmetryRingUptoRow.holds Tryd.pinned (OpenSpec.upto symmetryRingSpec)

/-- 'fretsawlaw09.SymmetryGroup', WHERE WHAT IT READS IS OF BULK AT MOST 1048576: true; the input reads as it did. -/
def symmetryGroupUptoRow : OpenClaim := { program := "ytahamffngmdjfaadoor", sum := "8a977d2244e0829d1a122b145797e49db842577af6f59ed00a0d7326f38719dd", func := "fretsaw/fretsawlaw09.SymmetryGroup", spec := "symmetryGroup", named := ["fretsaw/symmetry.quarterTurns"], apart := false, laid := [("fretsaw/symmetry.quarterTurns", laid_fretsaw_symmetry_quarterTurns)], narrowed := true }
def SymmetryGroupUptoSaid : Prop := symmetryGroupUptoRow.holds Tryd.pinned (OpenSpec.upto symmetryGroupSpec)

/-- 'fretsawlaw09.SymmetryLinear', WHERE WHAT IT READS IS OF BULK AT MOST 1048576: true; the input reads as it did. -/
def symmetryLinearUptoRow : OpenClaim := { program := "ytahamffngmdjfaadoor", sum := "8a977d2244e0829d1a122b145797e49db842577af6f59ed00a0d7326f38719dd", func := "fretsaw/fretsawlaw09.SymmetryLinear", spec := "symmetryLinear", named := ["fretsaw/symmetry.quarterTurns"], apart := false, laid := [("fretsaw/symmetry.quarterTurns", laid_fretsaw_symmetry_quarterTurns)], narrowed := true }
def SymmetryLinearUptoSaid : Prop := symmetryLinearUptoRow.holds Tryd.pinned (OpenSpec.upto symmetryLinearSpec)

/-- 'fretsawlaw09.SymmetryPlaces', WHERE WHAT IT READS IS OF BULK AT MOST 1048576: true; the input reads as it did. -/
def symmetryPlacesUptoRow : OpenClaim := { program := "ytahamffngmdjfaadoor", sum := "8a977d2244e0829d1a122b145797e49db842577af6f59ed00a0d7326f38719dd", func := "fretsaw/fretsawlaw09.SymmetryPlaces", spec := "symmetryPlaces", unfollowed := true, recurses := true, named := ["fretsaw/symmetry.quarterTurns"], apart := false, laid := [("fretsaw/symmetry.quarterTurns", laid_fretsaw_symmetry_quarterTurns)], narrowed := true }
def SymmetryPlacesUptoSaid : Prop := symmetryPlacesUptoRow.holds Tryd.pinned (OpenSpec.upto symmetryPlacesSpec)

end Rows
end Go.Proofs.YtahamffngmdjfaaDoor
