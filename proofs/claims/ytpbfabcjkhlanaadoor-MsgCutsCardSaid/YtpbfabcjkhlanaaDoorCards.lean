/-
  DERIVED. GIVEN WITH THE SEED: THE CARDS: each row of YtpbfabcjkhlanaaDoorRows.lean that lists a variable, with what it lists TIED to the program's text (the seventh form; the later family's looks); each row that meets fmt, with fmt's text TOLD by the authors' own Lean function (tested against real Go, not proved from fmt's source: count such statements apart). THE CARD IS WHAT COUNTS. Prove the row's statement (the work); the ties are given (YtpbfabcjkhlanaaDoorTie.lean); close each card by the builder's one call (the guide's Derived/Test/ToyasCard.lean, 'card_holds'). Laid BY PROGRAM, IN A SANDBOX (cutbox-door.mjs). By AI agents, Wed Nov 11 2026. No macro, syntax, notation, axiom, sorry.
-/
import Derived.Test.YtpbfabcjkhlanaaDoorRows
import GoSem.ClaimSeven
namespace Go.Proofs.YtpbfabcjkhlanaaDoor
namespace Rows

/-- THE TIED CARD OF 'pendentivelaw12.MsgCuts'. -/
def msgCutsCard : Claim7 := { stood := { row := msgCutsRow, standIns := [], harness := (true, "b54448d90a76c26775cbfd02405a685e17ce0f3ac2cbba0259db8b6462e52d17"), looks := false }, kinds := [], alts := [], laidByText := true, laidKinds := [.data], laidTests := true, laidLooks := .later }
def MsgCutsCardSaid : Prop := Claim7.holds Tryd.pinned (.plain (OpenSpec.ofChange msgCutsSpec)) msgCutsCard

/-- THE TIED CARD OF 'pendentivelaw12.MsgStops'. -/
def msgStopsCard : Claim7 := { stood := { row := msgStopsRow, standIns := [], harness := (true, "b54448d90a76c26775cbfd02405a685e17ce0f3ac2cbba0259db8b6462e52d17"), looks := false }, kinds := [], alts := [], laidByText := true, laidKinds := [.data], laidTests := true, laidLooks := .later }
def MsgStopsCardSaid : Prop := Claim7.holds Tryd.pinned (.plain (OpenSpec.ofChange msgStopsSpec)) msgStopsCard

/-- THE TIED CARD OF 'pendentivelaw12.MsgWhole'. -/
def msgWholeCard : Claim7 := { stood := { row := msgWholeRow, standIns := [], harness := (true, "b54448d90a76c26775cbfd02405a685e17ce0f3ac2cbba0259db8b6462e52d17"), looks := false }, kinds := [], alts := [], laidByText := true, laidKinds := [.data], laidTests := true, laidLooks := .later }
def MsgWholeCardSaid : Prop := Claim7.holds Tryd.pinned (.plain (OpenSpec.ofChange msgWholeSpec)) msgWholeCard

/-- THE TIED CARD OF 'pendentivelaw12.MsgBound'. -/
def msgBoundCard : Claim7 := { stood := { row := msgBoundRow, standIns := [], harness := (true, "b54448d90a76c26775cbfd02405a685e17ce0f3ac2cbba0259db8b6462e52d17"), looks := false }, kinds := [], alts := [], laidByText := true, laidKinds := [.data], laidTests := true, laidLooks := .later }
def MsgBoundCardSaid : Prop := Claim7.holds Tryd.pinned (.plain (OpenSpec.ofChange msgBoundSpec)) msgBoundCard

/-- THE TIED CARD OF 'pendentivelaw12.MsgMasks'. -/
def msgMasksCard : Claim7 := { stood := { row := msgMasksRow, standIns := [], harness := (true, "b54448d90a76c26775cbfd02405a685e17ce0f3ac2cbba0259db8b6462e52d17"), looks := false }, kinds := [], alts := [], laidByText := true, laidKinds := [.data], laidTests := true, laidLooks := .later }
def MsgMasksCardSaid : Prop := Claim7.holds Tryd.pinned (.plain (OpenSpec.ofChange msgMasksSpec)) msgMasksCard

/-- THE TIED CARD OF 'pendentivelaw12.MsgOrder'. -/
def msgOrderCard : Claim7 := { stood := { row := msgOrderRow, standIns := [], harness := (true, "b54448d90a76c26775cbfd02405a685e17ce0f3ac2cbba0259db8b6462e52d17"), looks := false }, kinds := [], alts := [], laidByText := true, laidKinds := [.data], laidTests := true, laidLooks := .later }
def MsgOrderCardSaid : Prop := Claim7.holds Tryd.pinned (.plain (OpenSpec.ofChange msgOrderSpec)) msgOrderCard

/-- THE SECOND FORM's CARD OF 'pendentivelaw12.MsgCuts'. -/
def msgCutsUptoCard : Claim7 := { stood := { row := msgCutsUptoRow, standIns := [], harness := (true, "b54448d90a76c26775cbfd02405a685e17ce0f3ac2cbba0259db8b6462e52d17"), looks := false }, kinds := [], alts := [], laidByText := true, laidKinds := [.data], laidTests := true, laidLooks := .later }
def MsgCutsUptoCardSaid : Prop := Claim7.holds Tryd.pinned (.plain (OpenSpec.upto msgCutsSpec)) msgCutsUptoCard

/-- THE SECOND FORM's CARD OF 'pendentivelaw12.MsgStops'. -/
def msgStopsUptoCard : Claim7 := { stood := { row := msgStopsUptoRow, standIns := [], harness := (true, "b54448d90a76c26775cbfd02405a685e17ce0f3ac2cbba0259db8b6462e52d17"), looks := false }, kinds := [], alts := [], laidByText := true, laidKinds := [.data], laidTests := true, laidLooks := .later }
def MsgStopsUptoCardSaid : Prop := Claim7.holds Tryd.pinned (.plain (OpenSpec.upto msgStopsSpec)) msgStopsUptoCard

/-- THE SECOND FORM's CARD OF 'pendentivelaw12.MsgWhole'. -/
def msgWholeUptoCard : Claim7 := { stood := { row := msgWholeUptoRow, standIns := [], harness := (true, "b54448d90a76c26775cbfd02405a685e17ce0f3ac2cbba0259db8b6462e52d17"), looks := false }, kinds := [], alts := [], laidByText := true, laidKinds := [.data], laidTests := true, laidLooks := .later }
def MsgWholeUptoCardSaid : Prop := Claim7.holds Tryd.pinned (.plain (OpenSpec.upto msgWholeSpec)) msgWholeUptoCard

/-- THE SECOND FORM's CARD OF 'pendentivelaw12.MsgBound'. -/
def msgBoundUptoCard : Claim7 := { stood := { row := msgBoundUptoRow, standIns := [], harness := (true, "b54448d90a76c26775cbfd02405a685e17ce0f3ac2cbba0259db8b6462e52d17"), looks := false }, kinds := [], alts := [], laidByText := true, laidKinds := [.data], laidTests := true, laidLooks := .later }
def MsgBoundUptoCardSaid : Prop := Claim7.holds Tryd.pinned (.plain (OpenSpec.upto msgBoundSpec)) msgBoundUptoCard

/-- THE SECOND FORM's CARD OF 'pendentivelaw12.MsgMasks'. -/
def msgMasksUptoCard : Claim7 := { stood := { row := msgMasksUptoRow, standIns := [], harness := (true, "b54448d90a76c26775cbfd02405a685e17ce0f3ac2cbba0259db8b6462e52d17"), looks := false }, kinds := [], alts := [], laidByText := true, laidKinds := [.data], laidTests := true, laidLooks := .later }
def MsgMasksUptoCardSaid : Prop := Claim7.holds Tryd.pinned (.plain (OpenSpec.upto msgMasksSpec)) msgMasksUptoCard

/-- THE SECOND FORM's CARD OF 'pendentivelaw12.MsgOrder'. -/
def msgOrderUptoCard : Claim7 := { stood := { row := msgOrderUptoRow, standIns := [], harness := (true, "b54448d90a76c26775cbfd02405a685e17ce0f3ac2cbba0259db8b6462e52d17"), looks := false }, kinds := [], alts := [], laidByText := true, laidKinds := [.data], laidTests := true, laidLooks := .later }
def MsgOrderUptoCardSaid : Prop := Claim7.holds Tryd.pinned (.plain (OpenSpec.upto msgOrderSpec)) msgOrderUptoCard
end Rows
end Go.Proofs.YtpbfabcjkhlanaaDoor
