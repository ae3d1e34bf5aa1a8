/-
  DERIVED. GIVEN WITH THE SEED: THE CARDS: each row of YtimndpmbgfoofaaDoorRows.lean that lists a variable, with what it lists TIED to the program's text (the seventh form; the later family's looks); each row that meets fmt, with fmt's text TOLD by the authors' own Lean function (tested against real Go, not proved from fmt's source: count such statements apart). THE CARD IS WHAT COUNTS. Prove the row's statement (the work); the ties are given (YtimndpmbgfoofaaDoorTie.lean); close each card by the builder's one call (the guide's Derived/Test/ToyasCard.lean, 'card_holds'). Laid BY PROGRAM, IN A SANDBOX (cutbox-door.mjs). By AI agents, Wed Nov 11 2026. No macro, syntax, notation, axiom, sorry.
-/
import Derived.Test.YtimndpmbgfoofaaDoorRows
import GoSem.ClaimSeven
namespace Go.Proofs.YtimndpmbgfoofaaDoor
namespace Rows

/-- THE TIED CARD OF 'pendentivelaw13.CutFrames'. -/
def cutFramesCard : Claim7 := { stood := { row := cutFramesRow, standIns := [], harness := (true, "8fcda7d4af6f4a4d7ff2fad62820139ea3587ca58bbbea1244eb78e62578f958"), looks := false }, kinds := [], alts := [], laidByText := true, laidKinds := [.data], laidTests := true, laidLooks := .later }
def CutFramesCardSaid : Prop := Claim7.holds Tryd.pinned (.plain (OpenSpec.ofChange cutFramesSpec)) cutFramesCard

/-- THE TIED CARD OF 'pendentivelaw13.CutJoins'. -/
def cutJoinsCard : Claim7 := { stood := { row := cutJoinsRow, standIns := [], harness := (true, "8fcda7d4af6f4a4d7ff2fad62820139ea3587ca58bbbea1244eb78e62578f958"), looks := false }, kinds := [], alts := [], laidByText := true, laidKinds := [.data], laidTests := true, laidLooks := .later }
def CutJoinsCardSaid : Prop := Claim7.holds Tryd.pinned (.plain (OpenSpec.ofChange cutJoinsSpec)) cutJoinsCard

/-- THE TIED CARD OF 'pendentivelaw13.CutThrough'. -/
def cutThroughCard : Claim7 := { stood := { row := cutThroughRow, standIns := [], harness := (true, "8fcda7d4af6f4a4d7ff2fad62820139ea3587ca58bbbea1244eb78e62578f958"), looks := false }, kinds := [], alts := [], laidByText := true, laidKinds := [.data, .data], laidTests := true, laidLooks := .later }
def CutThroughCardSaid : Prop := Claim7.holds Tryd.pinned (.plain (OpenSpec.ofChange cutThroughSpec)) cutThroughCard

/-- THE TIED CARD OF 'pendentivelaw13.CutCounts'. -/
def cutCountsCard : Claim7 := { stood := { row := cutCountsRow, standIns := [], harness := (true, "8fcda7d4af6f4a4d7ff2fad62820139ea3587ca58bbbea1244eb78e62578f958"), looks := false }, kinds := [], alts := [], laidByText := true, laidKinds := [.data], laidTests := true, laidLooks := .later }
def CutCountsCardSaid : Prop := Claim7.holds Tryd.pinned (.plain (OpenSpec.ofChange cutCountsSpec)) cutCountsCard

/-- THE TIED CARD OF 'pendentivelaw13.CutMasks'. -/
def cutMasksCard : Claim7 := { stood := { row := cutMasksRow, standIns := [], harness := (true, "8fcda7d4af6f4a4d7ff2fad62820139ea3587ca58bbbea1244eb78e62578f958"), looks := false }, kinds := [], alts := [], laidByText := true, laidKinds := [.data], laidTests := true, laidLooks := .later }
def CutMasksCardSaid : Prop := Claim7.holds Tryd.pinned (.plain (OpenSpec.ofChange cutMasksSpec)) cutMasksCard

/-- THE TIED CARD OF 'pendentivelaw13.CutSizes'. -/
def cutSizesCard : Claim7 := { stood := { row := cutSizesRow, standIns := [], harness := (true, "8fcda7d4af6f4a4d7ff2fad62820139ea3587ca58bbbea1244eb78e62578f958"), looks := false }, kinds := [], alts := [], laidByText := true, laidKinds := [.data], laidTests := true, laidLooks := .later }
def CutSizesCardSaid : Prop := Claim7.holds Tryd.pinned (.plain (OpenSpec.ofChange cutSizesSpec)) cutSizesCard

/-- THE TIED CARD OF 'pendentivelaw13.CutBytes'. -/
def cutBytesCard : Claim7 := { stood := { row := cutBytesRow, standIns := [], harness := (true, "8fcda7d4af6f4a4d7ff2fad62820139ea3587ca58bbbea1244eb78e62578f958"), looks := false }, kinds := [], alts := [], laidByText := true, laidKinds := [.data], laidTests := true, laidLooks := .later }
def CutBytesCardSaid : Prop := Claim7.holds Tryd.pinned (.plain (OpenSpec.ofChange cutBytesSpec)) cutBytesCard

/-- THE TIED CARD OF 'pendentivelaw13.CutOnce'. -/
def cutOnceCard : Claim7 := { stood := { row := cutOnceRow, standIns := [], harness := (true, "8fcda7d4af6f4a4d7ff2fad62820139ea3587ca58bbbea1244eb78e62578f958"), looks := false }, kinds := [], alts := [], laidByText := true, laidKinds := [.data], laidTests := true, laidLooks := .later }
def CutOnceCardSaid : Prop := Claim7.holds Tryd.pinned (.plain (OpenSpec.ofChange cutOnceSpec)) cutOnceCard

/-- THE SECOND FORM's CARD OF 'pendentivelaw13.CutFrames'. -/
def cutFramesUptoCard : Claim7 := { stood := { row := cutFramesUptoRow, standIns := [], harness := (true, "8fcda7d4af6f4a4d7ff2fad62820139ea3587ca58bbbea1244eb78e62578f958"), looks := false }, kinds := [], alts := [], laidByText := true, laidKinds := [.data], laidTests := true, laidLooks := .later }
def CutFramesUptoCardSaid : Prop := Claim7.holds Tryd.pinned (.plain (OpenSpec.upto cutFramesSpec)) cutFramesUptoCard

/-- THE SECOND FORM's CARD OF 'pendentivelaw13.CutJoins'. -/
def cutJoinsUptoCard : Claim7 := { stood := { row := cutJoinsUptoRow, standIns := [], harness := (true, "8fcda7d4af6f4a4d7ff2fad62820139ea3587ca58bbbea1244eb78e62578f958"), looks := false }, kinds := [], alts := [], laidByText := true, laidKinds := [.data], laidTests := true, laidLooks := .later }
def CutJoinsUptoCardSaid : Prop := Claim7.holds Tryd.pinned (.plain (OpenSpec.upto cutJoinsSpec)) cutJoinsUptoCard

/-- THE SECOND FORM's CARD OF 'pendentivelaw13.CutThrough'. -/
def cutThroughUptoCard : Claim7 := { stood := { row := cutThroughUptoRow, standIns := [], harness := (true, "8fcda7d4af6f4a4d7ff2fad62820139ea3587ca58bbbea1244eb78e62578f958"), looks := false }, kinds := [], alts := [], laidByText := true, laidKinds := [.data, .data], laidTests := true, laidLooks := .later }
def CutThroughUptoCardSaid : Prop := Claim7.holds Tryd.pinned (.plain (OpenSpec.upto cutThroughSpec)) cutThroughUptoCard

/-- THE SECOND FORM's CARD OF 'pendentivelaw13.CutCounts'. -/
def cutCountsUptoCard : Claim7 := { stood := { row := cutCountsUptoRow, standIns := [], harness := (true, "8fcda7d4af6f4a4d7ff2fad62820139ea3587ca58bbbea1244eb78e62578f958"), looks := false }, kinds := [], alts := [], laidByText := true, laidKinds := [.data], laidTests := true, laidLooks := .later }
def CutCountsUptoCardSaid : Prop := Claim7.holds Tryd.pinned (.plain (OpenSpec.upto cutCountsSpec)) cutCountsUptoCard

/-- THE SECOND FORM's CARD OF 'pendentivelaw13.CutMasks'. -/
def cutMasksUptoCard : Claim7 := { stood := { row := cutMasksUptoRow, standIns := [], harness := (true, "8fcda7d4af6f4a4d7ff2fad62820139ea3587ca58bbbea1244eb78e62578f958"), looks := false }, kinds := [], alts := [], laidByText := true, laidKinds := [.data], laidTests := true, laidLooks := .later }
def CutMasksUptoCardSaid : Prop := Claim7.holds Tryd.pinned (.plain (OpenSpec.upto cutMasksSpec)) cutMasksUptoCard

/-- THE SECOND FORM's CARD OF 'pendentivelaw13.CutSizes'. -/
def cutSizesUptoCard : Claim7 := { stood := { row := cutSizesUptoRow, standIns := [], harness := (true, "8fcda7d4af6f4a4d7ff2fad62820139ea3587ca58bbbea1244eb78e62578f958"), looks := false }, kinds := [], alts := [], laidByText := true, laidKinds := [.data], laidTests := true, laidLooks := .later }
def CutSizesUptoCardSaid : Prop := Claim7.holds Tryd.pinned (.plain (OpenSpec.upto cutSizesSpec)) cutSizesUptoCard

/-- THE SECOND FORM's CARD OF 'pendentivelaw13.CutBytes'. -/
def cutBytesUptoCard : Claim7 := { stood := { row := cutBytesUptoRow, standIns := [], harness := (true, "8fcda7d4af6f4a4d7ff2fad62820139ea3587ca58bbbea1244eb78e62578f958"), looks := false }, kinds := [], alts := [], laidByText := true, laidKinds := [.data], laidTests := true, laidLooks := .later }
def CutBytesUptoCardSaid : Prop := Claim7.holds Tryd.pinned (.plain (OpenSpec.upto cutBytesSpec)) cutBytesUptoCard

/-- THE SECOND FORM's CARD OF 'pendentivelaw13.CutOnce'. -/
def cutOnceUptoCard : Claim7 := { stood := { row := cutOnceUptoRow, standIns := [], harness := (true, "8fcda7d4af6f4a4d7ff2fad62820139ea3587ca58bbbea1244eb78e62578f958"), looks := false }, kinds := [], alts := [], laidByText := true, laidKinds := [.data], laidTests := true, laidLooks := .later }
def CutOnceUptoCardSaid : Prop := Claim7.holds Tryd.pinned (.plain (OpenSpec.upto cutOnceSpec)) cutOnceUptoCard
end Rows
end Go.Proofs.YtimndpmbgfoofaaDoor
