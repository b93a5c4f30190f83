/-
  No cell of these rows narrows 'for every input' (looked for: loops, veiled, ifaces, maps, wideKeys, modest, calm, conditions, laid).
  DERIVED. THE GIVEN ROWS OF THIS SEAT. 18 by the template 'for every input the law returns true; each argument reads behind the call as it read before'; 0 by the template 'total and deterministic' (their statements: YtahamffngmdjfaaTotals.lean).
  GIVEN WITH THE SEED: the statements are not yours to turn. If you find one false, say at which input.
  Laid BY PROGRAM, IN A SANDBOX (cutbox-rows.mjs): the forced cells as the released guide's own fill.sh prints them over the translation b52ddb16155f29e1… (all of the seat's roots in one cut). By AI agents, Wed Nov 11 2026. No macro, syntax, notation, axiom, sorry.
-/
import Derived.Test.YtahamffngmdjfaaChecked
import GoSem.Claim
import GoSem.ClaimJoined
import GoSem.ClaimMapViews
import Derived.JoinedTies
import Derived.KernelRfl
namespace Go.Proofs.Ytahamffngmdjfaa
/- THE CELL 'sum', in the pinned program and in every row, IS THE sha256 OF THE DUMP (.gsa) THAT YtahamffngmdjfaaProg.lean LOADS. Nothing in Lean hashes anything: it is a label: what it is worth is what the hold of that sum in a sandbox is worth. -/
noncomputable def Try.pinned : Pinned := { name := "ytahamffngmdjfaa", sum := "b52ddb16155f29e175924c891f3948961b8de073d65b0c4b41eaf9897cfc61d3", checked := Try.checked }
namespace Rows
def none {H : Type} : Left H := { results := [], args := [] }

/-- 'fretsawlaw06.VecArithmetic': WHATEVER THE INPUT: true; the input reads as it did. -/
def vecArithmeticSpec : ChangeSpec := { name := "vecArithmetic", fn := fun _ => fun
  | [d1, d2, d3] => { results := [.lit (.bool true)], args := [d1, d2, d3] }
  | _ => none }
def vecArithmeticRow : OpenClaim := { program := "ytahamffngmdjfaa", sum := "b52ddb16155f29e175924c891f3948961b8de073d65b0c4b41eaf9897cfc61d3", func := "fretsaw/fretsawlaw06.VecArithmetic", spec := "vecArithmetic", unfollowed := true, recurses := true, apart := false }
def VecArithmeticSaid : Prop := vecArithmeticRow.holds Try.pinned (OpenSpec.ofChange vecArithmeticSpec)

/-- ITS FALSE NEIGHBOUR: 'it returns false'. Refute it at one input. -/
def vecArithmeticWrong : ChangeSpec := { name := "vecArithmetic", fn := fun _ => fun
  | [d1, d2, d3] => { results := [.lit (.bool false)], args := [d1, d2, d3] }
  | _ => none }
def VecArithmeticWrongFalsely : Prop := vecArithmeticRow.holds Try.pinned (OpenSpec.ofChange vecArithmeticWrong)

/-- 'fretsawlaw06.VecCompare': WHATEVER THE INPUT: true; the input reads as it did. -/
def vecCompareSpec : ChangeSpec := { name := "vecCompare", fn := fun _ => fun
  | [d1, d2] => { results := [.lit (.bool true)], args := [d1, d2] }
  | _ => none }
def vecCompareRow : OpenClaim := { program := "ytahamffngmdjfaa", sum := "b52ddb16155f29e175924c891f3948961b8de073d65b0c4b41eaf9897cfc61d3", func := "fretsaw/fretsawlaw06.VecCompare", spec := "vecCompare", unfollowed := true, recurses := true, apart := false }
def VecCompareSaid : Prop := vecCompareRow.holds Try.pinned (OpenSpec.ofChange vecCompareSpec)

/-- ITS FALSE NEIGHBOUR: 'it returns false'. Refute it at one input. -/
def vecCompareWrong : ChangeSpec := { name := "vecCompare", fn := fun _ => fun
  | [d1, d2] => { results := [.lit (.bool false)], args := [d1, d2] }
  | _ => none }
def VecCompareWrongFalsely : Prop := vecCompareRow.holds Try.pinned (OpenSpec.ofChange vecCompareWrong)

/-- 'fretsawlaw06.VecLists': WHATEVER THE INPUT: true; the input reads as it did. -/
def vecListsSpec : ChangeSpec := { name := "vecLists", fn := fun _ => fun
  | [d1, d2, d3] => { results := [.lit (.bool true)], args := [d1, d2, d3] }
  | _ => none }
def vecListsRow : OpenClaim := { program := "ytahamffngmdjfaa", sum := "b52ddb16155f29e175924c891f3948961b8de073d65b0c4b41eaf9897cfc61d3", func := "fretsaw/fretsawlaw06.VecLists", spec := "vecLists", unfollowed := true, recurses := true, apart := false }
def VecListsSaid : Prop := vecListsRow.holds Try.pinned (OpenSpec.ofChange vecListsSpec)

/-- ITS FALSE NEIGHBOUR: 'it returns false'. Refute it at one input. -/
def vecListsWrong : ChangeSpec := { name := "vecLists", fn := fun _ => fun
  | [d1, d2, d3] => { results := [.lit (.bool false)], args := [d1, d2, d3] }
  | _ => none }
def VecListsWrongFalsely : Prop := vecListsRow.holds Try.pinned (OpenSpec.ofChange vecListsWrong)

/-- 'fretsawlaw06.VecBox': WHATEVER THE INPUT: true; the input reads as it did. -/
def vecBoxSpec : ChangeSpec := { name := "vecBox", fn := fun _ => fun
  | [d] => { results := [.lit (.bool true)], args := [d] }
  | _ => none }
def vecBoxRow : OpenClaim := { program := "ytahamffngmdjfaa", sum := "b52ddb16155f29e175924c891f3948961b8de073d65b0c4b41eaf9897cfc61d3", func := "fretsaw/fretsawlaw06.VecBox", spec := "vecBox", unfollowed := true, recurses := true, apart := false }
def VecBoxSaid : Prop := vecBoxRow.holds Try.pinned (OpenSpec.ofChange vecBoxSpec)

/-- ITS FALSE NEIGHBOUR: 'it returns false'. Refute it at one input. -/
def vecBoxWrong : ChangeSpec := { name := "vecBox", fn := fun _ => fun
  | [d] => { results := [.lit (.bool false)], args := [d] }
  | _ => none }
def VecBoxWrongFalsely : Prop := vecBoxRow.holds Try.pinned (OpenSpec.ofChange vecBoxWrong)

/-- 'fretsawlaw07.SegMeet': WHATEVER THE INPUT: true; the input reads as it did. -/
def segMeetSpec : ChangeSpec := { name := "segMeet", fn := fun _ => fun
  | [d1, d2] => { results := [.lit (.bool true)], args := [d1, d2] }
  | _ => none }
def segMeetRow : OpenClaim := { program := "ytahamffngmdjfaa", sum := "b52ddb16155f29e175924c891f3948961b8de073d65b0c4b41eaf9897cfc61d3", func := "fretsaw/fretsawlaw07.SegMeet", spec := "segMeet", apart := false }
def SegMeetSaid : Prop := segMeetRow.holds Try.pinned (OpenSpec.ofChange segMeetSpec)

/-- ITS FALSE NEIGHBOUR: 'it returns false'. Refute it at one input. -/
def segMeetWrong : ChangeSpec := { name := "segMeet", fn := fun _ => fun
  | [d1, d2] => { results := [.lit (.bool false)], args := [d1, d2] }
  | _ => none }
def SegMeetWrongFalsely : Prop := segMeetRow.holds Try.pinned (OpenSpec.ofChange segMeetWrong)

/-- 'fretsawlaw07.SegOn': WHATEVER THE INPUT: true; the input reads as it did. -/
def segOnSpec : ChangeSpec := { name := "segOn", fn := fun _ => fun
  | [d1, d2, d3] => { results := [.lit (.bool true)], args := [d1, d2, d3] }
  | _ => none }
def segOnRow : OpenClaim := { program := "ytahamffngmdjfaa", sum := "b52ddb16155f29e175924c891f3948961b8de073d65b0c4b41eaf9897cfc61d3", func := "fretsaw/fretsawlaw07.SegOn", spec := "segOn", apart := false }
def SegOnSaid : Prop := segOnRow.holds Try.pinned (OpenSpec.ofChange segOnSpec)

/-- ITS FALSE NEIGHBOUR: 'it returns false'. Refute it at one input. -/
def segOnWrong : ChangeSpec := { name := "segOn", fn := fun _ => fun
  | [d1, d2, d3] => { results := [.lit (.bool false)], args := [d1, d2, d3] }
  | _ => none }
def SegOnWrongFalsely : Prop := segOnRow.holds Try.pinned (OpenSpec.ofChange segOnWrong)

/-- 'fretsawlaw07.SegPoints': WHATEVER THE INPUT: true; the input reads as it did. -/
def segPointsSpec : ChangeSpec := { name := "segPoints", fn := fun _ => fun
  | [d1, d2] => { results := [.lit (.bool true)], args := [d1, d2] }
  | _ => none }
def segPointsRow : OpenClaim := { program := "ytahamffngmdjfaa", sum := "b52ddb16155f29e175924c891f3948961b8de073d65b0c4b41eaf9897cfc61d3", func := "fretsaw/fretsawlaw07.SegPoints", spec := "segPoints", apart := false }
def SegPointsSaid : Prop := segPointsRow.holds Try.pinned (OpenSpec.ofChange segPointsSpec)

/-- ITS FALSE NEIGHBOUR: 'it returns false'. Refute it at one input. -/
def segPointsWrong : ChangeSpec := { name := "segPoints", fn := fun _ => fun
  | [d1, d2] => { results := [.lit (.bool false)], args := [d1, d2] }
  | _ => none }
def SegPointsWrongFalsely : Prop := segPointsRow.holds Try.pinned (OpenSpec.ofChange segPointsWrong)

/-- 'fretsawlaw07.SegSymmetric': WHATEVER THE INPUT: true; the input reads as it did. -/
def segSymmetricSpec : ChangeSpec := { name := "segSymmetric", fn := fun _ => fun
  | [d1, d2, d3] => { results := [.lit (.bool true)], args := [d1, d2, d3] }
  | _ => none }
def segSymmetricRow : OpenClaim := { program := "ytahamffngmdjfaa", sum := "b52ddb16155f29e175924c891f3948961b8de073d65b0c4b41eaf9897cfc61d3", func := "fretsaw/fretsawlaw07.SegSymmetric", spec := "segSymmetric", apart := false }
def SegSymmetricSaid : Prop := segSymmetricRow.holds Try.pinned (OpenSpec.ofChange segSymmetricSpec)

/-- ITS FALSE NEIGHBOUR: 'it returns false'. Refute it at one input. -/
def segSymmetricWrong : ChangeSpec := { name := "segSymmetric", fn := fun _ => fun
  | [d1, d2, d3] => { results := [.lit (.bool false)], args := [d1, d2, d3] }
  | _ => none }
def SegSymmetricWrongFalsely : Prop := segSymmetricRow.holds Try.pinned (OpenSpec.ofChange segSymmetricWrong)

/-- 'fretsawlaw07.SegCross': WHATEVER THE INPUT: true; the input reads as it did. -/
def segCrossSpec : ChangeSpec := { name := "segCross", fn := fun _ => fun
  | [d1, d2] => { results := [.lit (.bool true)], args := [d1, d2] }
  | _ => none }
def segCrossRow : OpenClaim := { program := "ytahamffngmdjfaa", sum := "b52ddb16155f29e175924c891f3948961b8de073d65b0c4b41eaf9897cfc61d3", func := "fretsaw/fretsawlaw07.SegCross", spec := "segCross", apart := false }
def SegCrossSaid : Prop := segCrossRow.holds Try.pinned (OpenSpec.ofChange segCrossSpec)

/-- ITS FALSE NEIGHBOUR: 'it returns false'. Refute it at one input. -/
def segCrossWrong : ChangeSpec := { name := "segCross", fn := fun _ => fun
  | [d1, d2] => { results := [.lit (.bool false)], args := [d1, d2] }
  | _ => none }
def SegCrossWrongFalsely : Prop := segCrossRow.holds Try.pinned (OpenSpec.ofChange segCrossWrong)

/-- 'fretsawlaw07.SegCommon': WHATEVER THE INPUT: true; the input reads as it did. -/
def segCommonSpec : ChangeSpec := { name := "segCommon", fn := fun _ => fun
  | [d1, d2, d3] => { results := [.lit (.bool true)], args := [d1, d2, d3] }
  | _ => none }
def segCommonRow : OpenClaim := { program := "ytahamffngmdjfaa", sum := "b52ddb16155f29e175924c891f3948961b8de073d65b0c4b41eaf9897cfc61d3", func := "fretsaw/fretsawlaw07.SegCommon", spec := "segCommon", apart := false }
def SegCommonSaid : Prop := segCommonRow.holds Try.pinned (OpenSpec.ofChange segCommonSpec)

/-- ITS FALSE NEIGHBOUR: 'it returns false'. Refute it at one input. -/
def segCommonWrong : ChangeSpec := { name := "segCommon", fn := fun _ => fun
  | [d1, d2, d3] => { results := [.lit (.bool false)], args := [d1, d2, d3] }
  | _ => none }
def SegCommonWrongFalsely : Prop := segCommonRow.holds Try.pinned (OpenSpec.ofChange segCommonWrong)

/-- 'fretsawlaw07.SegOrder': WHATEVER THE INPUT: true; the input reads as it did. -/
def segOrderSpec : ChangeSpec := { name := "segOrder", fn := fun _ => fun
  | [d1, d2, d3] => { results := [.lit (.bool true)], args := [d1, d2, d3] }
  | _ => none }
def segOrderRow : OpenClaim := { program := "ytahamffngmdjfaa", sum := "b52ddb16155f29e175924c891f3948961b8de073d65b0c4b41eaf9897cfc61d3", func := "fretsaw/fretsawlaw07.SegOrder", spec := "segOrder", apart := false }
def SegOrderSaid : Prop := segOrderRow.holds Try.pinned (OpenSpec.ofChange segOrderSpec)

/-- ITS FALSE NEIGHBOUR: 'it returns false'. Refute it at one input. -/
def segOrderWrong : ChangeSpec := { name := "segOrder", fn := fun _ => fun
  | [d1, d2, d3] => { results := [.lit (.bool false)], args := [d1, d2, d3] }
  | _ => none }
def SegOrderWrongFalsely : Prop := segOrderRow.holds Try.pinned (OpenSpec.ofChange segOrderWrong)

/-- 'fretsawlaw08.RingWhere': WHATEVER THE INPUT: true; the input reads as it did. -/
def ringWhereSpec : ChangeSpec := { name := "ringWhere", fn := fun _ => fun
  | [d1, d2, d3] => { results := [.lit (.bool true)], args := [d1, d2, d3] }
  | _ => none }
def ringWhereRow : OpenClaim := { program := "ytahamffngmdjfaa", sum := "b52ddb16155f29e175924c891f3948961b8de073d65b0c4b41eaf9897cfc61d3", func := "fretsaw/fretsawlaw08.RingWhere", spec := "ringWhere", unfollowed := true, recurses := true, apart := false }
def RingWhereSaid : Prop := ringWhereRow.holds Try.pinned (OpenSpec.ofChange ringWhereSpec)

/-- ITS FALSE NEIGHBOUR: 'it returns false'. Refute it at one input. -/
def ringWhereWrong : ChangeSpec := { name := "ringWhere", fn := fun _ => fun
  | [d1, d2, d3] => { results := [.lit (.bool false)], args := [d1, d2, d3] }
  | _ => none }
def RingWhereWrongFalsely : Prop := ringWhereRow.holds Try.pinned (OpenSpec.ofChange ringWhereWrong)

/-- 'fretsawlaw08.RingMove': WHATEVER THE INPUT: true; the input reads as it did. -/
def ringMoveSpec : ChangeSpec := { name := "ringMove", fn := fun _ => fun
  | [d1, d2, d3] => { results := [.lit (.bool true)], args := [d1, d2, d3] }
  | _ => none }
def ringMoveRow : OpenClaim := { program := "ytahamffngmdjfaa", sum := "b52ddb16155f29e175924c891f3948961b8de073d65b0c4b41eaf9897cfc61d3", func := "fretsaw/fretsawlaw08.RingMove", spec := "ringMove", unfollowed := true, recurses := true, apart := false }
def RingMoveSaid : Prop := ringMoveRow.holds Try.pinned (OpenSpec.ofChange ringMoveSpec)

/-- ITS FALSE NEIGHBOUR: 'it returns false'. Refute it at one input. -/
def ringMoveWrong : ChangeSpec := { name := "ringMove", fn := fun _ => fun
  | [d1, d2, d3] => { results := [.lit (.bool false)], args := [d1, d2, d3] }
  | _ => none }
def RingMoveWrongFalsely : Prop := ringMoveRow.holds Try.pinned (OpenSpec.ofChange ringMoveWrong)

/-- 'fretsawlaw08.RingClean': WHATEVER THE INPUT: true; the input reads as it did. -/
def ringCleanSpec : ChangeSpec := { name := "ringClean", fn := fun _ => fun
  | [d] => { results := [.lit (.bool true)], args := [d] }
  | _ => none }
def ringCleanRow : OpenClaim := { program := "ytahamffngmdjfaa", sum := "b52ddb16155f29e175924c891f3948961b8de073d65b0c4b41eaf9897cfc61d3", func := "fretsaw/fretsawlaw08.RingClean", spec := "ringClean", unfollowed := true, recurses := true, apart := false }
def RingCleanSaid : Prop := ringCleanRow.holds Try.pinned (OpenSpec.ofChange ringCleanSpec)

/-- ITS FALSE NEIGHBOUR: 'it returns false'. Refute it at one input. -/
def ringCleanWrong : ChangeSpec := { name := "ringClean", fn := fun _ => fun
  | [d] => { results := [.lit (.bool false)], args := [d] }
  | _ => none }
def RingCleanWrongFalsely : Prop := ringCleanRow.holds Try.pinned (OpenSpec.ofChange ringCleanWrong)

/-- 'fretsawlaw08.RingPick': WHATEVER THE INPUT: true; the input reads as it did. -/
def ringPickSpec : ChangeSpec := { name := "ringPick", fn := fun _ => fun
  | [d] => { results := [.lit (.bool true)], args := [d] }
  | _ => none }
def ringPickRow : OpenClaim := { program := "ytahamffngmdjfaa", sum := "b52ddb16155f29e175924c891f3948961b8de073d65b0c4b41eaf9897cfc61d3", func := "fretsaw/fretsawlaw08.RingPick", spec := "ringPick", unfollowed := true, recurses := true, apart := false }
def RingPickSaid : Prop := ringPickRow.holds Try.pinned (OpenSpec.ofChange ringPickSpec)

/-- ITS FALSE NEIGHBOUR: 'it returns false'. Refute it at one input. -/
def ringPickWrong : ChangeSpec := { name := "ringPick", fn := fun _ => fun
  | [d] => { results := [.lit (.bool false)], args := [d] }
  | _ => none }
def RingPickWrongFalsely : Prop := ringPickRow.holds Try.pinned (OpenSpec.ofChange ringPickWrong)

/-- 'fretsawlaw08.RingStart': WHATEVER THE INPUT: true; the input reads as it did. -/
def ringStartSpec : ChangeSpec := { name := "ringStart", fn := fun _ => fun
  | [d1, d2, d3] => { results := [.lit (.bool true)], args := [d1, d2, d3] }
  | _ => none }
def ringStartRow : OpenClaim := { program := "ytahamffngmdjfaa", sum := "b52ddb16155f29e175924c891f3948961b8de073d65b0c4b41eaf9897cfc61d3", func := "fretsaw/fretsawlaw08.RingStart", spec := "ringStart", unfollowed := true, recurses := true, apart := false }
def RingStartSaid : Prop := ringStartRow.holds Try.pinned (OpenSpec.ofChange ringStartSpec)

/-- ITS FALSE NEIGHBOUR: 'it returns false'. Refute it at one input. -/
def ringStartWrong : ChangeSpec := { name := "ringStart", fn := fun _ => fun
  | [d1, d2, d3] => { results := [.lit (.bool false)], args := [d1, d2, d3] }
  | _ => none }
def RingStartWrongFalsely : Prop := ringStartRow.holds Try.pinned (OpenSpec.ofChange ringStartWrong)

/-- 'fretsawlaw08.RingPath': WHATEVER THE INPUT: true; the input reads as it did. -/
def ringPathSpec : ChangeSpec := { name := "ringPath", fn := fun _ => fun
  | [d1, d2, d3] => { results := [.lit (.bool true)], args := [d1, d2, d3] }
  | _ => none }
def ringPathRow : OpenClaim := { program := "ytahamffngmdjfaa", sum := "b52ddb16155f29e175924c891f3948961b8de073d65b0c4b41eaf9897cfc61d3", func := "fretsaw/fretsawlaw08.RingPath", spec := "ringPath", unfollowed := true, recurses := true, apart := false }
def RingPathSaid : Prop := ringPathRow.holds Try.pinned (OpenSpec.ofChange ringPathSpec)

/-- ITS FALSE NEIGHBOUR: 'it returns false'. Refute it at one input. -/
def ringPathWrong : ChangeSpec := { name := "ringPath", fn := fun _ => fun
  | [d1, d2, d3] => { results := [.lit (.bool false)], args := [d1, d2, d3] }
  | _ => none }
def RingPathWrongFalsely : Prop := ringPathRow.holds Try.pinned (OpenSpec.ofChange ringPathWrong)

/-- 'fretsawlaw08.RingConvex': WHATEVER THE INPUT: true; the input reads as it did. -/
def ringConvexSpec : ChangeSpec := { name := "ringConvex", fn := fun _ => fun
  | [d] => { results := [.lit (.bool true)], args := [d] }
  | _ => none }
def ringConvexRow : OpenClaim := { program := "ytahamffngmdjfaa", sum := "b52ddb16155f29e175924c891f3948961b8de073d65b0c4b41eaf9897cfc61d3", func := "fretsaw/fretsawlaw08.RingConvex", spec := "ringConvex", unfollowed := true, recurses := true, apart := false }
def RingConvexSaid : Prop := ringConvexRow.holds Try.pinned (OpenSpec.ofChange ringConvexSpec)

/-- ITS FALSE NEIGHBOUR: 'it returns false'. Refute it at one input. -/
def ringConvexWrong : ChangeSpec := { name := "ringConvex", fn := fun _ => fun
  | [d] => { results := [.lit (.bool false)], args := [d] }
  | _ => none }
def RingConvexWrongFalsely : Prop := ringConvexRow.holds Try.pinned (OpenSpec.ofChange ringConvexWrong)

/- THE SECOND FORM. 'bulk': how many values and letters a reading holds, each counted each time it is reached (what is shared counts as often as it is met; a slice's spare places count too). A statement '..UptoSaid' is the law's where the arguments, and the package variables that the reading takes, are together of bulk at most 1048576: NARROWER than '..Said'. Prove '..Said' where nothing that the law and all that it calls make is longer than what came in: it says more and counts as full. Else prove '..UptoSaid'. A law counts once. -/
mutual
def uptoBulk {H : Type} : DataW H → Nat
  | .lit (.string bytes) => bytes.length + 1
  | .lit _ => 1
  | .nil => 1
  | .ptr d => uptoBulk d + 1
  | .slice elems spare => uptoBulkAll elems + uptoBulkAll spare + 1
  | .agg parts => uptoBulkAll parts + 1
  | .iface _ d => uptoBulk d + 1
  | .map entries => uptoBulkEntries entries + 1
  | .held _ => 1
def uptoBulkAll {H : Type} : List (DataW H) → Nat
  | [] => 0
  | d :: r => uptoBulk d + uptoBulkAll r
def uptoBulkEntries {H : Type} : List (Lit × DataW H) → Nat
  | [] => 0
  | x :: r => uptoBulkEntry x + uptoBulkEntries r
def uptoBulkEntry {H : Type} : Lit × DataW H → Nat
  | (.string bytes, d) => bytes.length + uptoBulk d + 1
  | (_, d) => uptoBulk d + 1
 end
def uptoSmall : (H : Type) → List (DataW H) → Bool := fun _ ds => decide (uptoBulkAll ds ≤ 1048576)
def OpenSpec.upto (s : _root_.Go.ChangeSpec) : _root_.Go.OpenSpec := { _root_.Go.OpenSpec.ofChange s with cond := some uptoSmall }

/-- 'fretsawlaw06.VecArithmetic', WHERE WHAT IT READS IS OF BULK AT MOST 1048576: true; the input reads as it did. -/
def vecArithmeticUptoRow : OpenClaim := { program := "ytahamffngmdjfaa", sum := "b52ddb16155f29e175924c891f3948961b8de073d65b0c4b41eaf9897cfc61d3", func := "fretsaw/fretsawlaw06.VecArithmetic", spec := "vecArithmetic", unfollowed := true, recurses := true, apart := false, narrowed := true }
def VecArithmeticUptoSaid : Prop := vecArithmeticUptoRow.holds Try.pinned (OpenSpec.upto vecArithmeticSpec)

/-- 'fretsawlaw06.VecCompare', WHERE WHAT IT READS IS OF BULK AT MOST 1048576: true; the input reads as it did. -/
def vecCompareUptoRow : OpenClaim := { program := "ytahamffngmdjfaa", sum := "b52ddb16155f29e175924c891f3948961b8de073d65b0c4b41eaf9897cfc61d3", func := "fretsaw/fretsawlaw06.VecCompare", spec := "vecCompare", unfollowed := true, recurses := true, apart := false, narrowed := true }
def VecCompareUptoSaid : Prop := vecCompareUptoRow.holds Try.pinned (OpenSpec.upto vecCompareSpec)

/-- 'fretsawlaw06.VecLists', WHERE WHAT IT READS IS OF BULK AT MOST 1048576: true; the input reads as it did. -/
def vecListsUptoRow : OpenClaim := { program := "ytahamffngmdjfaa", sum := "b52ddb16155f29e175924c891f3948961b8de073d65b0c4b41eaf9897cfc61d3", func := "fretsaw/fretsawlaw06.VecLists", spec := "vecLists", unfollowed := true, recurses := true, apart := false, narrowed := true }
def VecListsUptoSaid : Prop := vecListsUptoRow.holds Try.pinned (OpenSpec.upto vecListsSpec)

/-- 'fretsawlaw06.VecBox', WHERE WHAT IT READS IS OF BULK AT MOST 1048576: true; the input reads as it did. -/
def vecBoxUptoRow : OpenClaim := { program := "ytahamffngmdjfaa", sum := "b52ddb16155f29e175924c891f3948961b8de073d65b0c4b41eaf9897cfc61d3", func := "fretsaw/fretsawlaw06.VecBox", spec := "vecBox", unfollowed := true, recurses := true, apart := false, narrowed := true }
def VecBoxUptoSaid : Prop := vecBoxUptoRow.holds Try.pinned (OpenSpec.upto vecBoxSpec)

/-- 'fretsawlaw07.SegMeet', WHERE WHAT IT READS IS OF BULK AT MOST 1048576: true; the input reads as it did. -/
def segMeetUptoRow : OpenClaim := { program := "ytahamffngmdjfaa", sum := "b52ddb16155f29e175924c891f3948961b8de073d65b0c4b41eaf9897cfc61d3", func := "fretsaw/fretsawlaw07.SegMeet", spec := "segMeet", apart := false, narrowed := true }
def SegMeetUptoSaid : Prop := segMeetUptoRow.holds Try.pinned (OpenSpec.upto segMeetSpec)

/-- 'fretsawlaw07.SegOn', WHERE WHAT IT READS IS OF BULK AT MOST 1048576: true; the input reads as it did. -/
def segOnUptoRow : OpenClaim := { program := "ytahamffngmdjfaa", sum := "b52ddb16155f29e175924c891f3948961b8de073d65b0c4b41eaf9897cfc61d3", func := "fretsaw/fretsawlaw07.SegOn", spec := "segOn", apart := false, narrowed := true }
def SegOnUptoSaid : Prop := segOnUptoRow.holds Try.pinned (OpenSpec.upto segOnSpec)

/-- 'fretsawlaw07.SegPoints', WHERE WHAT IT READS IS OF BULK AT MOST 1048576: true; the input reads as it did. -/
def segPointsUptoRow : OpenClaim := { program := "ytahamffngmdjfaa", sum := "b52ddb16155f29e175924c891f3948961b8de073d65b0c4b41eaf9897cfc61d3", func := "fretsaw/fretsawlaw07.SegPoints", spec := "segPoints", apart := false, narrowed := true }
def SegPointsUptoSaid : Prop := segPointsUptoRow.holds Try.pinned (OpenSpec.upto segPointsSpec)

/-- 'fretsawlaw07.SegSymmetric', WHERE WHAT IT READS IS OF BULK AT MOST 1048576: true; the input reads as it did. -/
def segSymmetricUptoRow : OpenClaim := { program := "ytahamffngmdjfaa", sum := "b52ddb16155f29e175924c891f3948961b8de073d65b0c4b41eaf9897cfc61d3", func := "fretsaw/fretsawlaw07.SegSymmetric", spec := "segSymmetric", apart := false, narrowed := true }
def SegSymmetricUptoSaid : Prop := segSymmetricUptoRow.holds Try.pinned (OpenSpec.upto segSymmetricSpec)

/-- 'fretsawlaw07.SegCross', WHERE WHAT IT READS IS OF BULK AT MOST 1048576: true; the input reads as it did. -/
def segCrossUptoRow : OpenClaim := { program := "ytahamffngmdjfaa", sum := "b52ddb16155f29e175924c891f3948961b8de073d65b0c4b41eaf9897cfc61d3", func := "fretsaw/fretsawlaw07.SegCross", spec := "segCross", apart := false, narrowed := true }
def SegCrossUptoSaid : Prop := segCrossUptoRow.holds Try.pinned (OpenSpec.upto segCrossSpec)

/-- 'fretsawlaw07.SegCommon', WHERE WHAT IT READS IS OF BULK AT MOST 1048576: true; the input reads as it did. -/
def segCommonUptoRow : OpenClaim := { program := "ytahamffngmdjfaa", sum := "b52ddb16155f29e175924c891f3948961b8de073d65b0c4b41eaf9897cfc61d3", func := "fretsaw/fretsawlaw07.SegCommon", spec := "segCommon", apart := false, narrowed := true }
def SegCommonUptoSaid : Prop := segCommonUptoRow.holds Try.pinned (OpenSpec.upto segCommonSpec)

/-- 'fretsawlaw07.SegOrder', WHERE WHAT IT READS IS OF BULK AT MOST 1048576: true; the input reads as it did. -/
def segOrderUptoRow : OpenClaim := { program := "ytahamffngmdjfaa", sum := "b52ddb16155f29e175924c891f3948961b8de073d65b0c4b41eaf9897cfc61d3", func := "fretsaw/fretsawlaw07.SegOrder", spec := "segOrder", apart := false, narrowed := true }
def SegOrderUptoSaid : Prop := segOrderUptoRow.holds Try.pinned (OpenSpec.upto segOrderSpec)

/-- 'fretsawlaw08.RingWhere', WHERE WHAT IT READS IS OF BULK AT MOST 1048576: true; the input reads as it did. -/
def ringWhereUptoRow : OpenClaim := { program := "ytahamffngmdjfaa", sum := "b52ddb16155f29e175924c891f3948961b8de073d65b0c4b41eaf9897cfc61d3", func := "fretsaw/fretsawlaw08.RingWhere", spec := "ringWhere", unfollowed := true, recurses := true, apart := false, narrowed := true }
def RingWhereUptoSaid : Prop := ringWhereUptoRow.holds Try.pinned (OpenSpec.upto ringWhereSpec)

/-- 'fretsawlaw08.RingMove', WHERE WHAT IT READS IS OF BULK AT MOST 1048576: true; the input reads as it did. -/
def ringMoveUptoRow : OpenClaim := { program := "ytahamffngmdjfaa", sum := "b52ddb16155f29e175924c891f3948961b8de073d65b0c4b41eaf9897cfc61d3", func := "fretsaw/fretsawlaw08.RingMove", spec := "ringMove", unfollowed := true, recurses := true, apart := false, narrowed := true }
def RingMoveUptoSaid : Prop := ringMoveUptoRow.holds Try.pinned (OpenSpec.upto ringMoveSpec)

/-- 'fretsawlaw08.RingClean', WHERE WHAT IT READS IS OF BULK AT MOST 1048576: true; the input reads as it did. -/
def ringCleanUptoRow : OpenClaim := { program := "ytahamffngmdjfaa", sum := "b52ddb16155f29e175924c891f3948961b8de073d65b0c4b41eaf9897cfc61d3", func := "fretsaw/fretsawlaw08.RingClean", spec := "ringClean", unfollowed := true, recurses := true, apart := false, narrowed := true }
def RingCleanUptoSaid : Prop := ringCleanUptoRow.holds Try.pinned (OpenSpec.upto ringCleanSpec)

/-- 'fretsawlaw08.RingPick', WHERE WHAT IT READS IS OF BULK AT MOST 1048576: true; the input reads as it did. -/
def ringPickUptoRow : OpenClaim := { program := "ytahamffngmdjfaa", sum := "b52ddb16155f29e175924c891f3948961b8de073d65b0c4b41eaf9897cfc61d3", func := "fretsaw/fretsawlaw08.RingPick", spec := "ringPick", unfollowed := true, recurses := true, apart := false, narrowed := true }
def RingPickUptoSaid : Prop := ringPickUptoRow.holds Try.pinned (OpenSpec.upto ringPickSpec)

/-- 'fretsawlaw08.RingStart', WHERE WHAT IT READS IS OF BULK AT MOST 1048576: true; the input reads as it did. -/
def ringStartUptoRow : OpenClaim := { program := "ytahamffngmdjfaa", sum := "b52ddb16155f29e175924c891f3948961b8de073d65b0c4b41eaf9897cfc61d3", func := "fretsaw/fretsawlaw08.RingStart", spec := "ringStart", unfollowed := true, recurses := true, apart := false, narrowed := true }
def RingStartUptoSaid : Prop := ringStartUptoRow.holds Try.pinned (OpenSpec.upto ringStartSpec)

/-- 'fretsawlaw08.RingPath', WHERE WHAT IT READS IS OF BULK AT MOST 1048576: true; the input reads as it did. -/
def ringPathUptoRow : OpenClaim := { program := "ytahamffngmdjfaa", sum := "b52ddb16155f29e175924c891f3948961b8de073d65b0c4b41eaf9897cfc61d3", func := "fretsaw/fretsawlaw08.RingPath", spec := "ringPath", unfollowed := true, recurses := true, apart := false, narrowed := true }
def RingPathUptoSaid : Prop := ringPathUptoRow.holds Try.pinned (OpenSpec.upto ringPathSpec)

/-- 'fretsawlaw08.RingConvex', WHERE WHAT IT READS IS OF BULK AT MOST 1048576: true; the input reads as it did. -/
def ringConvexUptoRow : OpenClaim := { program := "ytahamffngmdjfaa", sum := "b52ddb16155f29e175924c891f3948961b8de073d65b0c4b41eaf9897cfc61d3", func := "fretsaw/fretsawlaw08.RingConvex", spec := "ringConvex", unfollowed := true, recurses := true, apart := false, narrowed := true }
def RingConvexUptoSaid : Prop := ringConvexUptoRow.holds Try.pinned (OpenSpec.upto ringConvexSpec)

end Rows
end Go.Proofs.Ytahamffngmdjfaa
