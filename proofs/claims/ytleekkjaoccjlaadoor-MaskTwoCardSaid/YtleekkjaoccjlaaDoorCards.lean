/-
  DERIVED. GIVEN WITH THE SEED: THE CARDS: each row of YtleekkjaoccjlaaDoorRows.lean that lists a variable, with what it lists TIED to the program's text (the seventh form; the later family's looks); each row that meets fmt, with fmt's text TOLD by the authors' own Lean function (tested against real Go, not proved from fmt's source: count such statements apart). THE CARD IS WHAT COUNTS. Prove the row's statement (the work); the ties are given (YtleekkjaoccjlaaDoorTie.lean); close each card by the builder's one call (the guide's Derived/Test/ToyasCard.lean, 'card_holds'). Laid BY PROGRAM, IN A SANDBOX (cutbox-door.mjs). By AI agents, Wed Nov 11 2026. No macro, syntax, notation, axiom, sorry.
-/
import Derived.Test.YtleekkjaoccjlaaDoorRows
import GoSem.ClaimSeven
namespace Go.Proofs.YtleekkjaoccjlaaDoor
namespace Rows

/-- THE TIED CARD OF 'pendentivelaw08.MaskTurns'. -/
def maskTurnsCard : Claim7 := { stood := { row := maskTurnsRow, standIns := [], harness := (true, "a32c7cf530e6649fd6d7765c94c6be9aa24da48fdd9e949955527c14e3dd616f"), looks := false }, kinds := [], alts := [], laidByText := true, laidKinds := [.data], laidTests := true, laidLooks := .later }
def MaskTurnsCardSaid : Prop := Claim7.holds Tryd.pinned (.plain (OpenSpec.ofChange maskTurnsSpec)) maskTurnsCard

/-- THE TIED CARD OF 'pendentivelaw08.MaskCuts'. -/
def maskCutsCard : Claim7 := { stood := { row := maskCutsRow, standIns := [], harness := (true, "a32c7cf530e6649fd6d7765c94c6be9aa24da48fdd9e949955527c14e3dd616f"), looks := false }, kinds := [], alts := [], laidByText := true, laidKinds := [.data], laidTests := true, laidLooks := .later }
def MaskCutsCardSaid : Prop := Claim7.holds Tryd.pinned (.plain (OpenSpec.ofChange maskCutsSpec)) maskCutsCard

/-- THE TIED CARD OF 'pendentivelaw08.MaskLengths'. -/
def maskLengthsCard : Claim7 := { stood := { row := maskLengthsRow, standIns := [], harness := (true, "a32c7cf530e6649fd6d7765c94c6be9aa24da48fdd9e949955527c14e3dd616f"), looks := false }, kinds := [], alts := [], laidByText := true, laidKinds := [.data], laidTests := true, laidLooks := .later }
def MaskLengthsCardSaid : Prop := Claim7.holds Tryd.pinned (.plain (OpenSpec.ofChange maskLengthsSpec)) maskLengthsCard

/-- THE TIED CARD OF 'pendentivelaw08.MaskGets'. -/
def maskGetsCard : Claim7 := { stood := { row := maskGetsRow, standIns := [], harness := (true, "a32c7cf530e6649fd6d7765c94c6be9aa24da48fdd9e949955527c14e3dd616f"), looks := false }, kinds := [], alts := [], laidByText := true, laidKinds := [.data], laidTests := true, laidLooks := .later }
def MaskGetsCardSaid : Prop := Claim7.holds Tryd.pinned (.plain (OpenSpec.ofChange maskGetsSpec)) maskGetsCard

/-- THE TIED CARD OF 'pendentivelaw08.MaskKeys'. -/
def maskKeysCard : Claim7 := { stood := { row := maskKeysRow, standIns := [], harness := (true, "a32c7cf530e6649fd6d7765c94c6be9aa24da48fdd9e949955527c14e3dd616f"), looks := false }, kinds := [], alts := [], laidByText := true, laidKinds := [.data], laidTests := true, laidLooks := .later }
def MaskKeysCardSaid : Prop := Claim7.holds Tryd.pinned (.plain (OpenSpec.ofChange maskKeysSpec)) maskKeysCard

/-- THE TIED CARD OF 'pendentivelaw08.MaskTwo'. -/
def maskTwoCard : Claim7 := { stood := { row := maskTwoRow, standIns := [], harness := (true, "a32c7cf530e6649fd6d7765c94c6be9aa24da48fdd9e949955527c14e3dd616f"), looks := false }, kinds := [], alts := [], laidByText := true, laidKinds := [.data], laidTests := true, laidLooks := .later }
def MaskTwoCardSaid : Prop := Claim7.holds Tryd.pinned (.plain (OpenSpec.ofChange maskTwoSpec)) maskTwoCard

/-- THE TIED CARD OF 'pendentivelaw08.MaskLonger'. -/
def maskLongerCard : Claim7 := { stood := { row := maskLongerRow, standIns := [], harness := (true, "a32c7cf530e6649fd6d7765c94c6be9aa24da48fdd9e949955527c14e3dd616f"), looks := false }, kinds := [], alts := [], laidByText := true, laidKinds := [.data], laidTests := true, laidLooks := .later }
def MaskLongerCardSaid : Prop := Claim7.holds Tryd.pinned (.plain (OpenSpec.ofChange maskLongerSpec)) maskLongerCard

/-- THE SECOND FORM's CARD OF 'pendentivelaw08.MaskTurns'. -/
def maskTurnsUptoCard : Claim7 := { stood := { row := maskTurnsUptoRow, standIns := [], harness := (true, "a32c7cf530e6649fd6d7765c94c6be9aa24da48fdd9e949955527c14e3dd616f"), looks := false }, kinds := [], alts := [], laidByText := true, laidKinds := [.data], laidTests := true, laidLooks := .later }
def MaskTurnsUptoCardSaid : Prop := Claim7.holds Tryd.pinned (.plain (OpenSpec.upto maskTurnsSpec)) maskTurnsUptoCard

/-- THE SECOND FORM's CARD OF 'pendentivelaw08.MaskCuts'. -/
def maskCutsUptoCard : Claim7 := { stood := { row := maskCutsUptoRow, standIns := [], harness := (true, "a32c7cf530e6649fd6d7765c94c6be9aa24da48fdd9e949955527c14e3dd616f"), looks := false }, kinds := [], alts := [], laidByText := true, laidKinds := [.data], laidTests := true, laidLooks := .later }
def MaskCutsUptoCardSaid : Prop := Claim7.holds Tryd.pinned (.plain (OpenSpec.upto maskCutsSpec)) maskCutsUptoCard

/-- THE SECOND FORM's CARD OF 'pendentivelaw08.MaskLengths'. -/
def maskLengthsUptoCard : Claim7 := { stood := { row := maskLengthsUptoRow, standIns := [], harness := (true, "a32c7cf530e6649fd6d7765c94c6be9aa24da48fdd9e949955527c14e3dd616f"), looks := false }, kinds := [], alts := [], laidByText := true, laidKinds := [.data], laidTests := true, laidLooks := .later }
def MaskLengthsUptoCardSaid : Prop := Claim7.holds Tryd.pinned (.plain (OpenSpec.upto maskLengthsSpec)) maskLengthsUptoCard

/-- THE SECOND FORM's CARD OF 'pendentivelaw08.MaskGets'. -/
def maskGetsUptoCard : Claim7 := { stood := { row := maskGetsUptoRow, standIns := [], harness := (true, "a32c7cf530e6649fd6d7765c94c6be9aa24da48fdd9e949955527c14e3dd616f"), looks := false }, kinds := [], alts := [], laidByText := true, laidKinds := [.data], laidTests := true, laidLooks := .later }
def MaskGetsUptoCardSaid : Prop := Claim7.holds Tryd.pinned (.plain (OpenSpec.upto maskGetsSpec)) maskGetsUptoCard

/-- THE SECOND FORM's CARD OF 'pendentivelaw08.MaskKeys'. -/
def maskKeysUptoCard : Claim7 := { stood := { row := maskKeysUptoRow, standIns := [], harness := (true, "a32c7cf530e6649fd6d7765c94c6be9aa24da48fdd9e949955527c14e3dd616f"), looks := false }, kinds := [], alts := [], laidByText := true, laidKinds := [.data], laidTests := true, laidLooks := .later }
def MaskKeysUptoCardSaid : Prop := Claim7.holds Tryd.pinned (.plain (OpenSpec.upto maskKeysSpec)) maskKeysUptoCard

/-- THE SECOND FORM's CARD OF 'pendentivelaw08.MaskTwo'. -/
def maskTwoUptoCard : Claim7 := { stood := { row := maskTwoUptoRow, standIns := [], harness := (true, "a32c7cf530e6649fd6d7765c94c6be9aa24da48fdd9e949955527c14e3dd616f"), looks := false }, kinds := [], alts := [], laidByText := true, laidKinds := [.data], laidTests := true, laidLooks := .later }
def MaskTwoUptoCardSaid : Prop := Claim7.holds Tryd.pinned (.plain (OpenSpec.upto maskTwoSpec)) maskTwoUptoCard

/-- THE SECOND FORM's CARD OF 'pendentivelaw08.MaskLonger'. -/
def maskLongerUptoCard : Claim7 := { stood := { row := maskLongerUptoRow, standIns := [], harness := (true, "a32c7cf530e6649fd6d7765c94c6be9aa24da48fdd9e949955527c14e3dd616f"), looks := false }, kinds := [], alts := [], laidByText := true, laidKinds := [.data], laidTests := true, laidLooks := .later }
def MaskLongerUptoCardSaid : Prop := Claim7.holds Tryd.pinned (.plain (OpenSpec.upto maskLongerSpec)) maskLongerUptoCard
end Rows
end Go.Proofs.YtleekkjaoccjlaaDoor
