/-
  No cell of these rows narrows 'for every input' (looked for: loops, veiled, ifaces, maps, wideKeys, modest, calm, conditions, laid).
  DERIVED. THE GIVEN ROWS OF THIS SEAT. 7 by the template 'for every input the law returns true; each argument reads behind the call as it read before'; 0 by the template 'total and deterministic' (their statements: YtogfcenebbipeaaTotals.lean).
  GIVEN WITH THE SEED: the statements are not yours to turn. If you find one false, say at which input.
  Laid BY PROGRAM, IN A SANDBOX (cutbox-rows.mjs): the forced cells as the released guide's own fill.sh prints them over the translation 65222fded4e9d0f5… (all of the seat's roots in one cut). By AI agents, Wed Nov 11 2026. No macro, syntax, notation, axiom, sorry.
-/
import Derived.Test.YtogfcenebbipeaaChecked
import GoSem.Claim
import GoSem.ClaimJoined
import GoSem.ClaimMapViews
import Derived.JoinedTies
import Derived.KernelRfl
namespace Go.Proofs.Ytogfcenebbipeaa
/- THE CELL 'sum', in the pinned program and in every row, IS THE sha256 OF THE DUMP (.gsa) THAT YtogfcenebbipeaaProg.lean LOADS. Nothing in Lean hashes anything: it is a label: what it is worth is what the hold of that sum in a sandbox is worth. -/
noncomputable def Try.pinned : Pinned := { name := "ytogfcenebbipeaa", sum := "65222fded4e9d0f5d96cc35c322d3cb54a61b16f2288b534d4fcec52de4fa17d", checked := Try.checked }
namespace Rows
def none {H : Type} : Left H := { results := [], args := [] }

/-- 'fretsawlaw03.HeapPlays': WHATEVER THE INPUT: true; the input reads as it did. -/
def heapPlaysSpec : ChangeSpec := { name := "heapPlays", fn := fun _ => fun
  | [d] => { results := [.lit (.bool true)], args := [d] }
  | _ => none }
def heapPlaysRow : OpenClaim := { program := "ytogfcenebbipeaa", sum := "65222fded4e9d0f5d96cc35c322d3cb54a61b16f2288b534d4fcec52de4fa17d", func := "fretsaw/fretsawlaw03.HeapPlays", spec := "heapPlays", unfollowed := true, recurses := true, apart := false }
def HeapPlaysSaid : Prop := heapPlaysRow.holds Try.pinned (OpenSpec.ofChange heapPlaysSpec)

/-- ITS FALSE NEIGHBOUR: 'it returns false'. Refute it at one input. -/
def heapPlaysWrong : ChangeSpec := { name := "heapPlays", fn := fun _ => fun
  | [d] => { results := [.lit (.bool false)], args := [d] }
  | _ => none }
def HeapPlaysWrongFalsely : Prop := heapPlaysRow.holds Try.pinned (OpenSpec.ofChange heapPlaysWrong)

/-- 'fretsawlaw03.HeapSorts': WHATEVER THE INPUT: true; the input reads as it did. -/
def heapSortsSpec : ChangeSpec := { name := "heapSorts", fn := fun _ => fun
  | [d] => { results := [.lit (.bool true)], args := [d] }
  | _ => none }
def heapSortsRow : OpenClaim := { program := "ytogfcenebbipeaa", sum := "65222fded4e9d0f5d96cc35c322d3cb54a61b16f2288b534d4fcec52de4fa17d", func := "fretsaw/fretsawlaw03.HeapSorts", spec := "heapSorts", unfollowed := true, recurses := true, apart := false }
def HeapSortsSaid : Prop := heapSortsRow.holds Try.pinned (OpenSpec.ofChange heapSortsSpec)

/-- ITS FALSE NEIGHBOUR: 'it returns false'. Refute it at one input. -/
def heapSortsWrong : ChangeSpec := { name := "heapSorts", fn := fun _ => fun
  | [d] => { results := [.lit (.bool false)], args := [d] }
  | _ => none }
def HeapSortsWrongFalsely : Prop := heapSortsRow.holds Try.pinned (OpenSpec.ofChange heapSortsWrong)

/-- 'fretsawlaw03.HeapStable': WHATEVER THE INPUT: true; the input reads as it did. -/
def heapStableSpec : ChangeSpec := { name := "heapStable", fn := fun _ => fun
  | [d] => { results := [.lit (.bool true)], args := [d] }
  | _ => none }
def heapStableRow : OpenClaim := { program := "ytogfcenebbipeaa", sum := "65222fded4e9d0f5d96cc35c322d3cb54a61b16f2288b534d4fcec52de4fa17d", func := "fretsaw/fretsawlaw03.HeapStable", spec := "heapStable", unfollowed := true, recurses := true, apart := false }
def HeapStableSaid : Prop := heapStableRow.holds Try.pinned (OpenSpec.ofChange heapStableSpec)

/-- ITS FALSE NEIGHBOUR: 'it returns false'. Refute it at one input. -/
def heapStableWrong : ChangeSpec := { name := "heapStable", fn := fun _ => fun
  | [d] => { results := [.lit (.bool false)], args := [d] }
  | _ => none }
def HeapStableWrongFalsely : Prop := heapStableRow.holds Try.pinned (OpenSpec.ofChange heapStableWrong)

/-- 'fretsawlaw03.HeapIterates': WHATEVER THE INPUT: true; the input reads as it did. -/
def heapIteratesSpec : ChangeSpec := { name := "heapIterates", fn := fun _ => fun
  | [d1, d2] => { results := [.lit (.bool true)], args := [d1, d2] }
  | _ => none }
def heapIteratesRow : OpenClaim := { program := "ytogfcenebbipeaa", sum := "65222fded4e9d0f5d96cc35c322d3cb54a61b16f2288b534d4fcec52de4fa17d", func := "fretsaw/fretsawlaw03.HeapIterates", spec := "heapIterates", unfollowed := true, recurses := true, apart := false }
def HeapIteratesSaid : Prop := heapIteratesRow.holds Try.pinned (OpenSpec.ofChange heapIteratesSpec)

/-- ITS FALSE NEIGHBOUR: 'it returns false'. Refute it at one input. -/
def heapIteratesWrong : ChangeSpec := { name := "heapIterates", fn := fun _ => fun
  | [d1, d2] => { results := [.lit (.bool false)], args := [d1, d2] }
  | _ => none }
def HeapIteratesWrongFalsely : Prop := heapIteratesRow.holds Try.pinned (OpenSpec.ofChange heapIteratesWrong)

/-- 'fretsawlaw03.HeapClones': WHATEVER THE INPUT: true; the input reads as it did. -/
def heapClonesSpec : ChangeSpec := { name := "heapClones", fn := fun _ => fun
  | [d1, d2, d3] => { results := [.lit (.bool true)], args := [d1, d2, d3] }
  | _ => none }
def heapClonesRow : OpenClaim := { program := "ytogfcenebbipeaa", sum := "65222fded4e9d0f5d96cc35c322d3cb54a61b16f2288b534d4fcec52de4fa17d", func := "fretsaw/fretsawlaw03.HeapClones", spec := "heapClones", unfollowed := true, recurses := true, apart := false }
def HeapClonesSaid : Prop := heapClonesRow.holds Try.pinned (OpenSpec.ofChange heapClonesSpec)

/-- ITS FALSE NEIGHBOUR: 'it returns false'. Refute it at one input. -/
def heapClonesWrong : ChangeSpec := { name := "heapClones", fn := fun _ => fun
  | [d1, d2, d3] => { results := [.lit (.bool false)], args := [d1, d2, d3] }
  | _ => none }
def HeapClonesWrongFalsely : Prop := heapClonesRow.holds Try.pinned (OpenSpec.ofChange heapClonesWrong)

/-- 'fretsawlaw03.HeapCost': WHATEVER THE INPUT: true; the input reads as it did. -/
def heapCostSpec : ChangeSpec := { name := "heapCost", fn := fun _ => fun
  | [d] => { results := [.lit (.bool true)], args := [d] }
  | _ => none }
def heapCostRow : OpenClaim := { program := "ytogfcenebbipeaa", sum := "65222fded4e9d0f5d96cc35c322d3cb54a61b16f2288b534d4fcec52de4fa17d", func := "fretsaw/fretsawlaw03.HeapCost", spec := "heapCost", unfollowed := true, recurses := true, apart := false }
def HeapCostSaid : Prop := heapCostRow.holds Try.pinned (OpenSpec.ofChange heapCostSpec)

/-- ITS FALSE NEIGHBOUR: 'it returns false'. Refute it at one input. -/
def heapCostWrong : ChangeSpec := { name := "heapCost", fn := fun _ => fun
  | [d] => { results := [.lit (.bool false)], args := [d] }
  | _ => none }
def HeapCostWrongFalsely : Prop := heapCostRow.holds Try.pinned (OpenSpec.ofChange heapCostWrong)

/-- 'fretsawlaw03.HeapNil': WHATEVER THE INPUT: true; the input reads as it did. -/
def heapNilSpec : ChangeSpec := { name := "heapNil", fn := fun _ => fun
  | [d] => { results := [.lit (.bool true)], args := [d] }
  | _ => none }
def heapNilRow : OpenClaim := { program := "ytogfcenebbipeaa", sum := "65222fded4e9d0f5d96cc35c322d3cb54a61b16f2288b534d4fcec52de4fa17d", func := "fretsaw/fretsawlaw03.HeapNil", spec := "heapNil", unfollowed := true, recurses := true, apart := false }
def HeapNilSaid : Prop := heapNilRow.holds Try.pinned (OpenSpec.ofChange heapNilSpec)

/-- ITS FALSE NEIGHBOUR: 'it returns false'. Refute it at one input. -/
def heapNilWrong : ChangeSpec := { name := "heapNil", fn := fun _ => fun
  | [d] => { results := [.lit (.bool false)], args := [d] }
  | _ => none }
def HeapNilWrongFalsely : Prop := heapNilRow.holds Try.pinned (OpenSpec.ofChange heapNilWrong)

/- THE SECOND FORM. 'bulk': how many values and letters a reading holds, each counted each time it is reached (what is shared counts as often as it is met; a slice's spare places count too). A statement '..UptoSaid' is the law's where the arguments, and the package variables that the reading takes, are together of bulk at most 1048576: NARROWER than '..Said'. Prove '..Said' where nothing that the law and all that it calls make is longer than what came in: it says more and counts as full. Else prove '..UptoSaid'. A law counts once. -/
mutual
def uptoBulk {H : Type} : DataW H → Nat
  | .lit (.string bytes) => bytes.length + 1
  | .lit _ => 1
  | .nil => 1
  | .ptr d => uptoBulk d + 1
  | .slice elems spare => uptoBulkAll elems + uptoBulkAll spare + 1
  | .agg parts => uptoBulkAll parts + 1
  | .iface _ d => uptoBulk d + 1
  | .map entries => uptoBulkEntries entries + 1
  | .held _ => 1
def uptoBulkAll {H : Type} : List (DataW H) → Nat
  | [] => 0
  | d :: r => uptoBulk d + uptoBulkAll r
def uptoBulkEntries {H : Type} : List (Lit × DataW H) → Nat
  | [] => 0
  | x :: r => uptoBulkEntry x + uptoBulkEntries r
def uptoBulkEntry {H : Type} : Lit × DataW H → Nat
  | (.string bytes, d) => bytes.length + uptoBulk d + 1
  | (_, d) => uptoBulk d + 1
 end
def uptoSmall : (H : Type) → List (DataW H) → Bool := fun _ ds => decide (uptoBulkAll ds ≤ 1048576)
def OpenSpec.upto (s : _root_.Go.ChangeSpec) : _root_.Go.OpenSpec := { _root_.Go.OpenSpec.ofChange s with cond := some uptoSmall }

/-- 'fretsawlaw03.HeapPlays', WHERE WHAT IT READS IS OF BULK AT MOST 1048576: true; the input reads as it did. -/
def heapPlaysUptoRow : OpenClaim := { program := "ytogfcenebbipeaa", sum := "65222fded4e9d0f5d96cc35c322d3cb54a61b16f2288b534d4fcec52de4fa17d", func := "fretsaw/fretsawlaw03.HeapPlays", spec := "heapPlays", unfollowed := true, recurses := true, apart := false, narrowed := true }
def HeapPlaysUptoSaid : Prop := heapPlaysUptoRow.holds Try.pinned (OpenSpec.upto heapPlaysSpec)

/-- 'fretsawlaw03.HeapSorts', WHERE WHAT IT READS IS OF BULK AT MOST 1048576: true; the input reads as it did. -/
def heapSortsUptoRow : OpenClaim := { program := "ytogfcenebbipeaa", sum := "65222fded4e9d0f5d96cc35c322d3cb54a61b16f2288b534d4fcec52de4fa17d", func := "fretsaw/fretsawlaw03.HeapSorts", spec := "heapSorts", unfollowed := true, recurses := true, apart := false, narrowed := true }
def HeapSortsUptoSaid : Prop := heapSortsUptoRow.holds Try.pinned (OpenSpec.upto heapSortsSpec)

/-- 'fretsawlaw03.HeapStable', WHERE WHAT IT READS IS OF BULK AT MOST 1048576: true; the input reads as it did. -/
def heapStableUptoRow : OpenClaim := { program := "ytogfcenebbipeaa", sum := "65222fded4e9d0f5d96cc35c322d3cb54a61b16f2288b534d4fcec52de4fa17d", func := "fretsaw/fretsawlaw03.HeapStable", spec := "heapStable", unfollowed := true, recurses := true, apart := false, narrowed := true }
def HeapStableUptoSaid : Prop := heapStableUptoRow.holds Try.pinned (OpenSpec.upto heapStableSpec)

/-- 'fretsawlaw03.HeapIterates', WHERE WHAT IT READS IS OF BULK AT MOST 1048576: true; the input reads as it did. -/
def heapIteratesUptoRow : OpenClaim := { program := "ytogfcenebbipeaa", sum := "65222fded4e9d0f5d96cc35c322d3cb54a61b16f2288b534d4fcec52de4fa17d", func := "fretsaw/fretsawlaw03.HeapIterates", spec := "heapIterates", unfollowed := true, recurses := true, apart := false, narrowed := true }
def HeapIteratesUptoSaid : Prop := heapIteratesUptoRow.holds Try.pinned (OpenSpec.upto heapIteratesSpec)

/-- 'fretsawlaw03.HeapClones', WHERE WHAT IT READS IS OF BULK AT MOST 1048576: true; the input reads as it did. -/
def heapClonesUptoRow : OpenClaim := { program := "ytogfcenebbipeaa", sum := "65222fded4e9d0f5d96cc35c322d3cb54a61b16f2288b534d4fcec52de4fa17d", func := "fretsaw/fretsawlaw03.HeapClones", spec := "heapClones", unfollowed := true, recurses := true, apart := false, narrowed := true }
def HeapClonesUptoSaid : Prop := heapClonesUptoRow.holds Try.pinned (OpenSpec.upto heapClonesSpec)

/-- 'fretsawlaw03.HeapCost', WHERE WHAT IT READS IS OF BULK AT MOST 1048576: true; the input reads as it did. -/
def heapCostUptoRow : OpenClaim := { program := "ytogfcenebbipeaa", sum := "65222fded4e9d0f5d96cc35c322d3cb54a61b16f2288b534d4fcec52de4fa17d", func := "fretsaw/fretsawlaw03.HeapCost", spec := "heapCost", unfollowed := true, recurses := true, apart := false, narrowed := true }
def HeapCostUptoSaid : Prop := heapCostUptoRow.holds Try.pinned (OpenSpec.upto heapCostSpec)

/-- 'fretsawlaw03.HeapNil', WHERE WHAT IT READS IS OF BULK AT MOST 1048576: true; the input reads as it did. -/
def heapNilUptoRow : OpenClaim := { program := "ytogfcenebbipeaa", sum := "65222fded4e9d0f5d96cc35c322d3cb54a61b16f2288b534d4fcec52de4fa17d", func := "fretsaw/fretsawlaw03.HeapNil", spec := "heapNil", unfollowed := true, recurses := true, apart := false, narrowed := true }
def HeapNilUptoSaid : Prop := heapNilUptoRow.holds Try.pinned (OpenSpec.upto heapNilSpec)

end Rows
end Go.Proofs.Ytogfcenebbipeaa
