/-
  No cell of these rows narrows 'for every input' (looked for: loops, veiled, ifaces, maps, wideKeys, modest, calm, conditions, laid).
  DERIVED. THE GIVEN ROWS OF THIS SEAT. 7 by the template 'for every input the law returns true; each argument reads behind the call as it read before'; 0 by the template 'total and deterministic' (their statements: YthbgapcplgigoaaTotals.lean).
  GIVEN WITH THE SEED: the statements are not yours to turn. If you find one false, say at which input.
  Laid BY PROGRAM, IN A SANDBOX (cutbox-rows.mjs): the forced cells as the released guide's own fill.sh prints them over the translation b6071351ca24b7e1… (all of the seat's roots in one cut). By AI agents, Wed Nov 11 2026. No macro, syntax, notation, axiom, sorry.
-/
import Derived.Test.YthbgapcplgigoaaChecked
import GoSem.Claim
import GoSem.ClaimJoined
import GoSem.ClaimMapViews
import Derived.JoinedTies
import Derived.KernelRfl
namespace Go.Proofs.Ythbgapcplgigoaa
/- THE CELL 'sum', in the pinned program and in every row, IS THE sha256 OF THE DUMP (.gsa) THAT YthbgapcplgigoaaProg.lean LOADS. Nothing in Lean hashes anything: it is a label: what it is worth is what the hold of that sum in a sandbox is worth. -/
noncomputable def Try.pinned : Pinned := { name := "ythbgapcplgigoaa", sum := "b6071351ca24b7e143ba5ce432ccf767301608ad3f8f2a9c2794995ac92d5dd8", checked := Try.checked }
namespace Rows
def none {H : Type} : Left H := { results := [], args := [] }

/-- 'fretsawlaw10.HullOf': WHATEVER THE INPUT: true; the input reads as it did. -/
def hullOfSpec : ChangeSpec := { name := "hullOf", fn := fun _ => fun
  | [d] => { results := [.lit (.bool true)], args := [d] }
  | _ => none }
def hullOfRow : OpenClaim := { program := "ythbgapcplgigoaa", sum := "b6071351ca24b7e143ba5ce432ccf767301608ad3f8f2a9c2794995ac92d5dd8", func := "fretsaw/fretsawlaw10.HullOf", spec := "hullOf", unfollowed := true, recurses := true, apart := false }
def HullOfSaid : Prop := hullOfRow.holds Try.pinned (OpenSpec.ofChange hullOfSpec)

/-- ITS FALSE NEIGHBOUR: 'it returns false'. Refute it at one input. -/
def hullOfWrong : ChangeSpec := { name := "hullOf", fn := fun _ => fun
  | [d] => { results := [.lit (.bool false)], args := [d] }
  | _ => none }
def HullOfWrongFalsely : Prop := hullOfRow.holds Try.pinned (OpenSpec.ofChange hullOfWrong)

/-- 'fretsawlaw10.HullQueries': WHATEVER THE INPUT: true; the input reads as it did. -/
def hullQueriesSpec : ChangeSpec := { name := "hullQueries", fn := fun _ => fun
  | [d1, d2, d3] => { results := [.lit (.bool true)], args := [d1, d2, d3] }
  | _ => none }
def hullQueriesRow : OpenClaim := { program := "ythbgapcplgigoaa", sum := "b6071351ca24b7e143ba5ce432ccf767301608ad3f8f2a9c2794995ac92d5dd8", func := "fretsaw/fretsawlaw10.HullQueries", spec := "hullQueries", unfollowed := true, recurses := true, apart := false }
def HullQueriesSaid : Prop := hullQueriesRow.holds Try.pinned (OpenSpec.ofChange hullQueriesSpec)

/-- ITS FALSE NEIGHBOUR: 'it returns false'. Refute it at one input. -/
def hullQueriesWrong : ChangeSpec := { name := "hullQueries", fn := fun _ => fun
  | [d1, d2, d3] => { results := [.lit (.bool false)], args := [d1, d2, d3] }
  | _ => none }
def HullQueriesWrongFalsely : Prop := hullQueriesRow.holds Try.pinned (OpenSpec.ofChange hullQueriesWrong)

/-- 'fretsawlaw10.HullContains': WHATEVER THE INPUT: true; the input reads as it did. -/
def hullContainsSpec : ChangeSpec := { name := "hullContains", fn := fun _ => fun
  | [d] => { results := [.lit (.bool true)], args := [d] }
  | _ => none }
def hullContainsRow : OpenClaim := { program := "ythbgapcplgigoaa", sum := "b6071351ca24b7e143ba5ce432ccf767301608ad3f8f2a9c2794995ac92d5dd8", func := "fretsaw/fretsawlaw10.HullContains", spec := "hullContains", unfollowed := true, recurses := true, apart := false }
def HullContainsSaid : Prop := hullContainsRow.holds Try.pinned (OpenSpec.ofChange hullContainsSpec)

/-- ITS FALSE NEIGHBOUR: 'it returns false'. Refute it at one input. -/
def hullContainsWrong : ChangeSpec := { name := "hullContains", fn := fun _ => fun
  | [d] => { results := [.lit (.bool false)], args := [d] }
  | _ => none }
def HullContainsWrongFalsely : Prop := hullContainsRow.holds Try.pinned (OpenSpec.ofChange hullContainsWrong)

/-- 'fretsawlaw10.HullLeast': WHATEVER THE INPUT: true; the input reads as it did. -/
def hullLeastSpec : ChangeSpec := { name := "hullLeast", fn := fun _ => fun
  | [d1, d2] => { results := [.lit (.bool true)], args := [d1, d2] }
  | _ => none }
def hullLeastRow : OpenClaim := { program := "ythbgapcplgigoaa", sum := "b6071351ca24b7e143ba5ce432ccf767301608ad3f8f2a9c2794995ac92d5dd8", func := "fretsaw/fretsawlaw10.HullLeast", spec := "hullLeast", unfollowed := true, recurses := true, apart := false }
def HullLeastSaid : Prop := hullLeastRow.holds Try.pinned (OpenSpec.ofChange hullLeastSpec)

/-- ITS FALSE NEIGHBOUR: 'it returns false'. Refute it at one input. -/
def hullLeastWrong : ChangeSpec := { name := "hullLeast", fn := fun _ => fun
  | [d1, d2] => { results := [.lit (.bool false)], args := [d1, d2] }
  | _ => none }
def HullLeastWrongFalsely : Prop := hullLeastRow.holds Try.pinned (OpenSpec.ofChange hullLeastWrong)

/-- 'fretsawlaw10.HullAgain': WHATEVER THE INPUT: true; the input reads as it did. -/
def hullAgainSpec : ChangeSpec := { name := "hullAgain", fn := fun _ => fun
  | [d1, d2, d3] => { results := [.lit (.bool true)], args := [d1, d2, d3] }
  | _ => none }
def hullAgainRow : OpenClaim := { program := "ythbgapcplgigoaa", sum := "b6071351ca24b7e143ba5ce432ccf767301608ad3f8f2a9c2794995ac92d5dd8", func := "fretsaw/fretsawlaw10.HullAgain", spec := "hullAgain", unfollowed := true, recurses := true, apart := false }
def HullAgainSaid : Prop := hullAgainRow.holds Try.pinned (OpenSpec.ofChange hullAgainSpec)

/-- ITS FALSE NEIGHBOUR: 'it returns false'. Refute it at one input. -/
def hullAgainWrong : ChangeSpec := { name := "hullAgain", fn := fun _ => fun
  | [d1, d2, d3] => { results := [.lit (.bool false)], args := [d1, d2, d3] }
  | _ => none }
def HullAgainWrongFalsely : Prop := hullAgainRow.holds Try.pinned (OpenSpec.ofChange hullAgainWrong)

/-- 'fretsawlaw10.HullWidth': WHATEVER THE INPUT: true; the input reads as it did. -/
def hullWidthSpec : ChangeSpec := { name := "hullWidth", fn := fun _ => fun
  | [d1, d2, d3] => { results := [.lit (.bool true)], args := [d1, d2, d3] }
  | _ => none }
def hullWidthRow : OpenClaim := { program := "ythbgapcplgigoaa", sum := "b6071351ca24b7e143ba5ce432ccf767301608ad3f8f2a9c2794995ac92d5dd8", func := "fretsaw/fretsawlaw10.HullWidth", spec := "hullWidth", unfollowed := true, recurses := true, apart := false }
def HullWidthSaid : Prop := hullWidthRow.holds Try.pinned (OpenSpec.ofChange hullWidthSpec)

/-- ITS FALSE NEIGHBOUR: 'it returns false'. Refute it at one input. -/
def hullWidthWrong : ChangeSpec := { name := "hullWidth", fn := fun _ => fun
  | [d1, d2, d3] => { results := [.lit (.bool false)], args := [d1, d2, d3] }
  | _ => none }
def HullWidthWrongFalsely : Prop := hullWidthRow.holds Try.pinned (OpenSpec.ofChange hullWidthWrong)

/-- 'fretsawlaw10.HullDiameter': WHATEVER THE INPUT: true; the input reads as it did. -/
def hullDiameterSpec : ChangeSpec := { name := "hullDiameter", fn := fun _ => fun
  | [d1, d2] => { results := [.lit (.bool true)], args := [d1, d2] }
  | _ => none }
def hullDiameterRow : OpenClaim := { program := "ythbgapcplgigoaa", sum := "b6071351ca24b7e143ba5ce432ccf767301608ad3f8f2a9c2794995ac92d5dd8", func := "fretsaw/fretsawlaw10.HullDiameter", spec := "hullDiameter", unfollowed := true, recurses := true, apart := false }
def HullDiameterSaid : Prop := hullDiameterRow.holds Try.pinned (OpenSpec.ofChange hullDiameterSpec)

/-- ITS FALSE NEIGHBOUR: 'it returns false'. Refute it at one input. -/
def hullDiameterWrong : ChangeSpec := { name := "hullDiameter", fn := fun _ => fun
  | [d1, d2] => { results := [.lit (.bool false)], args := [d1, d2] }
  | _ => none }
def HullDiameterWrongFalsely : Prop := hullDiameterRow.holds Try.pinned (OpenSpec.ofChange hullDiameterWrong)

/- THE SECOND FORM. 'bulk': how many values and letters a reading holds, each counted each time it is reached (what is shared counts as often as it is met; a slice's spare places count too). A statement '..UptoSaid' is the law's where the arguments, and the package variables that the reading takes, are together of bulk at most 1048576: NARROWER than '..Said'. Prove '..Said' where nothing that the law and all that it calls make is longer than what came in: it says more and counts as full. Else prove '..UptoSaid'. A law counts once. -/
mutual
def uptoBulk {H : Type} : DataW H → Nat
  | .lit (.string bytes) => bytes.length + 1
  | .lit _ => 1
  | .nil => 1
  | .ptr d => uptoBulk d + 1
  | .slice elems spare => uptoBulkAll elems + uptoBulkAll spare + 1
  | .agg parts => uptoBulkAll parts + 1
  | .iface _ d => uptoBulk d + 1
  | .map entries => uptoBulkEntries entries + 1
  | .held _ => 1
def uptoBulkAll {H : Type} : List (DataW H) → Nat
  | [] => 0
  | d :: r => uptoBulk d + uptoBulkAll r
def uptoBulkEntries {H : Type} : List (Lit × DataW H) → Nat
  | [] => 0
  | x :: r => uptoBulkEntry x + uptoBulkEntries r
def uptoBulkEntry {H : Type} : Lit × DataW H → Nat
  | (.string bytes, d) => bytes.length + uptoBulk d + 1
  | (_, d) => uptoBulk d + 1
 end
def uptoSmall : (H : Type) → List (DataW H) → Bool := fun _ ds => decide (uptoBulkAll ds ≤ 1048576)
def OpenSpec.upto (s : _root_.Go.ChangeSpec) : _root_.Go.OpenSpec := { _root_.Go.OpenSpec.ofChange s with cond := some uptoSmall }

/-- 'fretsawlaw10.HullOf', WHERE WHAT IT READS IS OF BULK AT MOST 1048576: true; the input reads as it did. -/
def hullOfUptoRow : OpenClaim := { program := "ythbgapcplgigoaa", sum := "b6071351ca24b7e143ba5ce432ccf767301608ad3f8f2a9c2794995ac92d5dd8", func := "fretsaw/fretsawlaw10.HullOf", spec := "hullOf", unfollowed := true, recurses := true, apart := false, narrowed := true }
def HullOfUptoSaid : Prop := hullOfUptoRow.holds Try.pinned (OpenSpec.upto hullOfSpec)

/-- 'fretsawlaw10.HullQueries', WHERE WHAT IT READS IS OF BULK AT MOST 1048576: true; the input reads as it did. -/
def hullQueriesUptoRow : OpenClaim := { program := "ythbgapcplgigoaa", sum := "b6071351ca24b7e143ba5ce432ccf767301608ad3f8f2a9c2794995ac92d5dd8", func := "fretsaw/fretsawlaw10.HullQueries", spec := "hullQueries", unfollowed := true, recurses := true, apart := false, narrowed := true }
def HullQueriesUptoSaid : Prop := hullQueriesUptoRow.holds Try.pinned (OpenSpec.upto hullQueriesSpec)

/-- 'fretsawlaw10.HullContains', WHERE WHAT IT READS IS OF BULK AT MOST 1048576: true; the input reads as it did. -/
def hullContainsUptoRow : OpenClaim := { program := "ythbgapcplgigoaa", sum := "b6071351ca24b7e143ba5ce432ccf767301608ad3f8f2a9c2794995ac92d5dd8", func := "fretsaw/fretsawlaw10.HullContains", spec := "hullContains", unfollowed := true, recurses := true, apart := false, narrowed := true }
def HullContainsUptoSaid : Prop := hullContainsUptoRow.holds Try.pinned (OpenSpec.upto hullContainsSpec)

/-- 'fretsawlaw10.HullLeast', WHERE WHAT IT READS IS OF BULK AT MOST 1048576: true; the input reads as it did. -/
def hullLeastUptoRow : OpenClaim := { program := "ythbgapcplgigoaa", sum := "b6071351ca24b7e143ba5ce432ccf767301608ad3f8f2a9c2794995ac92d5dd8", func := "fretsaw/fretsawlaw10.HullLeast", spec := "hullLeast", unfollowed := true, recurses := true, apart := false, narrowed := true }
def HullLeastUptoSaid : Prop := hullLeastUptoRow.holds Try.pinned (OpenSpec.upto hullLeastSpec)

/-- 'fretsawlaw10.HullAgain', WHERE WHAT IT READS IS OF BULK AT MOST 1048576: true; the input reads as it did. -/
def hullAgainUptoRow : OpenClaim := { program := "ythbgapcplgigoaa", sum := "b6071351ca24b7e143ba5ce432ccf767301608ad3f8f2a9c2794995ac92d5dd8", func := "fretsaw/fretsawlaw10.HullAgain", spec := "hullAgain", unfollowed := true, recurses := true, apart := false, narrowed := true }
def HullAgainUptoSaid : Prop := hullAgainUptoRow.holds Try.pinned (OpenSpec.upto hullAgainSpec)

/-- 'fretsawlaw10.HullWidth', WHERE WHAT IT READS IS OF BULK AT MOST 1048576: true; the input reads as it did. -/
def hullWidthUptoRow : OpenClaim := { program := "ythbgapcplgigoaa", sum := "b6071351ca24b7e143ba5ce432ccf767301608ad3f8f2a9c2794995ac92d5dd8", func := "fretsaw/fretsawlaw10.HullWidth", spec := "hullWidth", unfollowed := true, recurses := true, apart := false, narrowed := true }
def HullWidthUptoSaid : Prop := hullWidthUptoRow.holds Try.pinned (OpenSpec.upto hullWidthSpec)

/-- 'fretsawlaw10.HullDiameter', WHERE WHAT IT READS IS OF BULK AT MOST 1048576: true; the input reads as it did. -/
def hullDiameterUptoRow : OpenClaim := { program := "ythbgapcplgigoaa", sum := "b6071351ca24b7e143ba5ce432ccf767301608ad3f8f2a9c2794995ac92d5dd8", func := "fretsaw/fretsawlaw10.HullDiameter", spec := "hullDiameter", unfollowed := true, recurses := true, apart := false, narrowed := true }
def HullDiameterUptoSaid : Prop := hullDiameterUptoRow.holds Try.pinned (OpenSpec.upto hullDiameterSpec)

end Rows
end Go.Proofs.Ythbgapcplgigoaa
