/-
  DERIVED. GIVEN WITH THE SEED: THE CARDS: each row of YtahamffngmdjfaaDoorRows.lean that lists a variable, with what it lists TIED to the program's text (the seventh form; the later family's looks); each row that meets fmt, with fmt's text TOLD by the authors' own Lean function (tested against real Go, not proved from fmt's source: count such statements apart). THE CARD IS WHAT COUNTS. Prove the row's statement (the work); the ties are given (YtahamffngmdjfaaDoorTie.lean); close each card by the builder's one call (the guide's Derived/Test/ToyasCard.lean, 'card_holds'). Laid BY PROGRAM, IN A SANDBOX (cutbox-door.mjs). By AI agents, Wed Nov 11 2026. No macro, syntax, notation, axiom, sorry.
-/
import Derived.Test.YtahamffngmdjfaaDoorRows
import GoSem.ClaimSeven
namespace Go.Proofs.YtahamffngmdjfaaDoor
namespace Rows

/-- THE TIED CARD OF 'fretsawlaw09.SymmetryVec'. -/
def symmetryVecCard : Claim7 := { stood := { row := symmetryVecRow, standIns := [], harness := (true, "1bd7045ddc70642b9ab912c1084a60e8e115f2595f3a147f165bf291762aec18"), looks := false }, kinds := [], alts := [], laidByText := true, laidKinds := [.data], laidTests := true, laidLooks := .later }
def SymmetryVecCardSaid : Prop := Claim7.holds Tryd.pinned (.plain (OpenSpec.ofChange symmetryVecSpec)) symmetryVecCard

/-- THE TIED CARD OF 'fretsawlaw09.SymmetryThen'. -/
def symmetryThenCard : Claim7 := { stood := { row := symmetryThenRow, standIns := [], harness := (true, "1bd7045ddc70642b9ab912c1084a60e8e115f2595f3a147f165bf291762aec18"), looks := false }, kinds := [], alts := [], laidByText := true, laidKinds := [.data], laidTests := true, laidLooks := .later }
def SymmetryThenCardSaid : Prop := Claim7.holds Tryd.pinned (.plain (OpenSpec.ofChange symmetryThenSpec)) symmetryThenCard

/-- THE TIED CARD OF 'fretsawlaw09.SymmetryRing'. -/
def symmetryRingCard : Claim7 := { stood := { row := symmetryRingRow, standIns := [], harness := (true, "1bd7045ddc70642b9ab912c1084a60e8e115f2595f3a147f165bf291762aec18"), looks := false }, kinds := [], alts := [], laidByText := true, laidKinds := [.data], laidTests := true, laidLooks := .later }
def SymmetryRingCardSaid : Prop := Claim7.holds Tryd.pinned (.plain (OpenSpec.ofChange symmetryRingSpec)) symmetryRingCard

/-- THE TIED CARD OF 'fretsawlaw09.SymmetryGroup'. -/
def symmetryGroupCard : Claim7 := { stood := { row := symmetryGroupRow, standIns := [], harness := (true, "1bd7045ddc70642b9ab912c1084a60e8e115f2595f3a147f165bf291762aec18"), looks := false }, kinds := [], alts := [], laidByText := true, laidKinds := [.data], laidTests := true, laidLooks := .later }
def SymmetryGroupCardSaid : Prop := Claim7.holds Tryd.pinned (.plain (OpenSpec.ofChange symmetryGroupSpec)) symmetryGroupCard

/-- THE TIED CARD OF 'fretsawlaw09.SymmetryLinear'. -/
def symmetryLinearCard : Claim7 := { stood := { row := symmetryLinearRow, standIns := [], harness := (true, "1bd7045ddc70642b9ab912c1084a60e8e115f2595f3a147f165bf291762aec18"), looks := false }, kinds := [], alts := [], laidByText := true, laidKinds := [.data], laidTests := true, laidLooks := .later }
def SymmetryLinearCardSaid : Prop := Claim7.holds Tryd.pinned (.plain (OpenSpec.ofChange symmetryLinearSpec)) symmetryLinearCard

/-- THE TIED CARD OF 'fretsawlaw09.SymmetryPlaces'. -/
def symmetryPlacesCard : Claim7 := { stood := { row := symmetryPlacesRow, standIns := [], harness := (true, "1bd7045ddc70642b9ab912c1084a60e8e115f2595f3a147f165bf291762aec18"), looks := false }, kinds := [], alts := [], laidByText := true, laidKinds := [.data], laidTests := true, laidLooks := .later }
def SymmetryPlacesCardSaid : Prop := Claim7.holds Tryd.pinned (.plain (OpenSpec.ofChange symmetryPlacesSpec)) symmetryPlacesCard

/-- THE SECOND FORM's CARD OF 'fretsawlaw09.SymmetryVec'. -/
def symmetryVecUptoCard : Claim7 := { stood := { row := symmetryVecUptoRow, standIns := [], harness := (true, "1bd7045ddc70642b9ab912c1084a60e8e115f2595f3a147f165bf291762aec18"), looks := false }, kinds := [], alts := [], laidByText := true, laidKinds := [.data], laidTests := true, laidLooks := .later }
def SymmetryVecUptoCardSaid : Prop := Claim7.holds Tryd.pinned (.plain (OpenSpec.upto symmetryVecSpec)) symmetryVecUptoCard

/-- THE SECOND FORM's CARD OF 'fretsawlaw09.SymmetryThen'. -/
def symmetryThenUptoCard : Claim7 := { stood := { row := symmetryThenUptoRow, standIns := [], harness := (true, "1bd7045ddc70642b9ab912c1084a60e8e115f2595f3a147f165bf291762aec18"), looks := false }, kinds := [], alts := [], laidByText := true, laidKinds := [.data], laidTests := true, laidLooks := .later }
def SymmetryThenUptoCardSaid : Prop := Claim7.holds Tryd.pinned (.plain (OpenSpec.upto symmetryThenSpec)) symmetryThenUptoCard

/-- THE SECOND FORM's CARD OF 'fretsawlaw09.SymmetryRing'. -/
def symmetryRingUptoCard : Claim7 := { stood := { row := symmetryRingUptoRow, standIns := [], harness := (true, "1bd7045ddc70642b9ab912c1084a60e8e115f2595f3a147f165bf291762aec18"), looks := false }, kinds := [], alts := [], laidByText := true, laidKinds := [.data], laidTests := true, laidLooks := .later }
def SymmetryRingUptoCardSaid : Prop := Claim7.holds Tryd.pinned (.plain (OpenSpec.upto symmetryRingSpec)) symmetryRingUptoCard

/-- THE SECOND FORM's CARD OF 'fretsawlaw09.SymmetryGroup'. -/
def symmetryGroupUptoCard : Claim7 := { stood := { row := symmetryGroupUptoRow, standIns := [], harness := (true, "1bd7045ddc70642b9ab912c1084a60e8e115f2595f3a147f165bf291762aec18"), looks := false }, kinds := [], alts := [], laidByText := true, laidKinds := [.data], laidTests := true, laidLooks := .later }
def SymmetryGroupUptoCardSaid : Prop := Claim7.holds Tryd.pinned (.plain (OpenSpec.upto symmetryGroupSpec)) symmetryGroupUptoCard

/-- THE SECOND FORM's CARD OF 'fretsawlaw09.SymmetryLinear'. -/
def symmetryLinearUptoCard : Claim7 := { stood := { row := symmetryLinearUptoRow, standIns := [], harness := (true, "1bd7045ddc70642b9ab912c1084a60e8e115f2595f3a147f165bf291762aec18"), looks := false }, kinds := [], alts := [], laidByText := true, laidKinds := [.data], laidTests := true, laidLooks := .later }
def SymmetryLinearUptoCardSaid : Prop := Claim7.holds Tryd.pinned (.plain (OpenSpec.upto symmetryLinearSpec)) symmetryLinearUptoCard

/-- THE SECOND FORM's CARD OF 'fretsawlaw09.SymmetryPlaces'. -/
def symmetryPlacesUptoCard : Claim7 := { stood := { row := symmetryPlacesUptoRow, standIns := [], harness := (true, "1bd7045ddc70642b9ab912c1084a60e8e115f2595f3a147f165bf291762aec18"), looks := false }, kinds := [], alts := [], laidByText := true, laidKinds := [.data], laidTests := true, laidLooks := .later }
def SymmetryPlacesUptoCardSaid : Prop := Claim7.holds Tryd.pinned (.plain (OpenSpec.upto symmetryPlacesSpec)) symmetryPlacesUptoCard
end Rows
end Go.Proofs.YtahamffngmdjfaaDoor
