/-
  DERIVED. GIVEN WITH THE SEED: THE CARDS: each row of YtnogaaalpfjgcaaDoorRows.lean that lists a variable, with what it lists TIED to the program's text (the seventh form; the later family's looks); each row that meets fmt, with fmt's text TOLD by the authors' own Lean function (tested against real Go, not proved from fmt's source: count such statements apart). THE CARD IS WHAT COUNTS. Prove the row's statement (the work); the ties are given (YtnogaaalpfjgcaaDoorTie.lean); close each card by the builder's one call (the guide's Derived/Test/ToyasCard.lean, 'card_holds'). Laid BY PROGRAM, IN A SANDBOX (cutbox-door.mjs). By AI agents, Wed Nov 11 2026. No macro, syntax, notation, axiom, sorry.
-/
import Derived.Test.YtnogaaalpfjgcaaDoorRows
import GoSem.ClaimSeven
namespace Go.Proofs.YtnogaaalpfjgcaaDoor
namespace Rows

/-- THE TIED CARD OF 'pendentivelaw11.ClosePuts'. -/
def closePutsCard : Claim7 := { stood := { row := closePutsRow, standIns := [], harness := (true, "94b9e647e46e6deecc7553e29c0416c693fe3a82dfe6e1c734f6ba7fba414e9c"), looks := false }, kinds := [], alts := [], laidByText := true, laidKinds := [.data], laidTests := true, laidLooks := .later }
def ClosePutsCardSaid : Prop := Claim7.holds Tryd.pinned (.plain (OpenSpec.ofChange closePutsSpec)) closePutsCard

/-- THE TIED CARD OF 'pendentivelaw11.CloseGets'. -/
def closeGetsCard : Claim7 := { stood := { row := closeGetsRow, standIns := [], harness := (true, "94b9e647e46e6deecc7553e29c0416c693fe3a82dfe6e1c734f6ba7fba414e9c"), looks := false }, kinds := [], alts := [], laidByText := true, laidKinds := [.data], laidTests := true, laidLooks := .later }
def CloseGetsCardSaid : Prop := Claim7.holds Tryd.pinned (.plain (OpenSpec.ofChange closeGetsSpec)) closeGetsCard

/-- THE TIED CARD OF 'pendentivelaw11.CloseCodes'. -/
def closeCodesCard : Claim7 := { stood := { row := closeCodesRow, standIns := [], harness := (true, "94b9e647e46e6deecc7553e29c0416c693fe3a82dfe6e1c734f6ba7fba414e9c"), looks := false }, kinds := [], alts := [], laidByText := true, laidKinds := [.data], laidTests := true, laidLooks := .later }
def CloseCodesCardSaid : Prop := Claim7.holds Tryd.pinned (.plain (OpenSpec.ofChange closeCodesSpec)) closeCodesCard

/-- THE TIED CARD OF 'pendentivelaw11.CloseApart'. -/
def closeApartCard : Claim7 := { stood := { row := closeApartRow, standIns := [], harness := (true, "94b9e647e46e6deecc7553e29c0416c693fe3a82dfe6e1c734f6ba7fba414e9c"), looks := false }, kinds := [], alts := [], laidByText := true, laidKinds := [.data], laidTests := true, laidLooks := .later }
def CloseApartCardSaid : Prop := Claim7.holds Tryd.pinned (.plain (OpenSpec.ofChange closeApartSpec)) closeApartCard

/-- THE TIED CARD OF 'pendentivelaw11.CloseSizes'. -/
def closeSizesCard : Claim7 := { stood := { row := closeSizesRow, standIns := [], harness := (true, "94b9e647e46e6deecc7553e29c0416c693fe3a82dfe6e1c734f6ba7fba414e9c"), looks := false }, kinds := [], alts := [], laidByText := true, laidKinds := [.data], laidTests := true, laidLooks := .later }
def CloseSizesCardSaid : Prop := Claim7.holds Tryd.pinned (.plain (OpenSpec.ofChange closeSizesSpec)) closeSizesCard

/-- THE TIED CARD OF 'pendentivelaw11.CloseEvery'. -/
def closeEveryCard : Claim7 := { stood := { row := closeEveryRow, standIns := [], harness := (true, "94b9e647e46e6deecc7553e29c0416c693fe3a82dfe6e1c734f6ba7fba414e9c"), looks := false }, kinds := [], alts := [], laidByText := true, laidKinds := [.data], laidTests := true, laidLooks := .later }
def CloseEveryCardSaid : Prop := Claim7.holds Tryd.pinned (.plain (OpenSpec.ofChange closeEverySpec)) closeEveryCard

/-- THE SECOND FORM's CARD OF 'pendentivelaw11.ClosePuts'. -/
def closePutsUptoCard : Claim7 := { stood := { row := closePutsUptoRow, standIns := [], harness := (true, "94b9e647e46e6deecc7553e29c0416c693fe3a82dfe6e1c734f6ba7fba414e9c"), looks := false }, kinds := [], alts := [], laidByText := true, laidKinds := [.data], laidTests := true, laidLooks := .later }
def ClosePutsUptoCardSaid : Prop := Claim7.holds Tryd.pinned (.plain (OpenSpec.upto closePutsSpec)) closePutsUptoCard

/-- THE SECOND FORM's CARD OF 'pendentivelaw11.CloseGets'. -/
def closeGetsUptoCard : Claim7 := { stood := { row := closeGetsUptoRow, standIns := [], harness := (true, "94b9e647e46e6deecc7553e29c0416c693fe3a82dfe6e1c734f6ba7fba414e9c"), looks := false }, kinds := [], alts := [], laidByText := true, laidKinds := [.data], laidTests := true, laidLooks := .later }
def CloseGetsUptoCardSaid : Prop := Claim7.holds Tryd.pinned (.plain (OpenSpec.upto closeGetsSpec)) closeGetsUptoCard

/-- THE SECOND FORM's CARD OF 'pendentivelaw11.CloseCodes'. -/
def closeCodesUptoCard : Claim7 := { stood := { row := closeCodesUptoRow, standIns := [], harness := (true, "94b9e647e46e6deecc7553e29c0416c693fe3a82dfe6e1c734f6ba7fba414e9c"), looks := false }, kinds := [], alts := [], laidByText := true, laidKinds := [.data], laidTests := true, laidLooks := .later }
def CloseCodesUptoCardSaid : Prop := Claim7.holds Tryd.pinned (.plain (OpenSpec.upto closeCodesSpec)) closeCodesUptoCard

/-- THE SECOND FORM's CARD OF 'pendentivelaw11.CloseApart'. -/
def closeApartUptoCard : Claim7 := { stood := { row := closeApartUptoRow, standIns := [], harness := (true, "94b9e647e46e6deecc7553e29c0416c693fe3a82dfe6e1c734f6ba7fba414e9c"), looks := false }, kinds := [], alts := [], laidByText := true, laidKinds := [.data], laidTests := true, laidLooks := .later }
def CloseApartUptoCardSaid : Prop := Claim7.holds Tryd.pinned (.plain (OpenSpec.upto closeApartSpec)) closeApartUptoCard

/-- THE SECOND FORM's CARD OF 'pendentivelaw11.CloseSizes'. -/
def closeSizesUptoCard : Claim7 := { stood := { row := closeSizesUptoRow, standIns := [], harness := (true, "94b9e647e46e6deecc7553e29c0416c693fe3a82dfe6e1c734f6ba7fba414e9c"), looks := false }, kinds := [], alts := [], laidByText := true, laidKinds := [.data], laidTests := true, laidLooks := .later }
def CloseSizesUptoCardSaid : Prop := Claim7.holds Tryd.pinned (.plain (OpenSpec.upto closeSizesSpec)) closeSizesUptoCard

/-- THE SECOND FORM's CARD OF 'pendentivelaw11.CloseEvery'. -/
def closeEveryUptoCard : Claim7 := { stood := { row := closeEveryUptoRow, standIns := [], harness := (true, "94b9e647e46e6deecc7553e29c0416c693fe3a82dfe6e1c734f6ba7fba414e9c"), looks := false }, kinds := [], alts := [], laidByText := true, laidKinds := [.data], laidTests := true, laidLooks := .later }
def CloseEveryUptoCardSaid : Prop := Claim7.holds Tryd.pinned (.plain (OpenSpec.upto closeEverySpec)) closeEveryUptoCard
end Rows
end Go.Proofs.YtnogaaalpfjgcaaDoor
