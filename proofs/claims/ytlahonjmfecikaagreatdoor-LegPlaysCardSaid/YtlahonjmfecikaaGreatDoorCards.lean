/-
  DERIVED. GIVEN WITH THE SEED: THE CARDS: each row of YtlahonjmfecikaaGreatDoorRows.lean that lists a variable, with what it lists TIED to the program's text (the seventh form; the later family's looks); each row that meets fmt, with fmt's text TOLD by the authors' own Lean function (tested against real Go, not proved from fmt's source: count such statements apart). THE CARD IS WHAT COUNTS. Prove the row's statement (the work); the ties are given (YtlahonjmfecikaaGreatDoorTie.lean); close each card by the builder's one call (the guide's Derived/Test/ToyasCard.lean, 'card_holds'). Laid BY PROGRAM, IN A SANDBOX (cutbox-door.mjs). By AI agents, Wed Nov 11 2026. No macro, syntax, notation, axiom, sorry.
-/
import Derived.Test.YtlahonjmfecikaaGreatDoorRows
import GoSem.ClaimSeven
namespace Go.Proofs.YtlahonjmfecikaaGreatDoor
namespace Rows

/-- THE TIED CARD OF 'pendentivelaw16.LegPlays'. -/
def legPlaysCard : Claim7 := { stood := { row := legPlaysRow, standIns := [], harness := (true, "953736f73dd7a6b06dbbf3f58798e7bb4ecaecdedf03ada1361d5fa01b0e6f43"), looks := false }, kinds := [], alts := [], laidByText := true, laidKinds := [.data, .data, .data], laidTests := true, laidLooks := .later }
def LegPlaysCardSaid : Prop := Claim7.holds Tryz.pinned (.plain (OpenSpec.ofChange legPlaysSpec)) legPlaysCard

/-- THE TIED CARD OF 'pendentivelaw16.LegSays'. -/
def legSaysCard : Claim7 := { stood := { row := legSaysRow, standIns := [], harness := (true, "953736f73dd7a6b06dbbf3f58798e7bb4ecaecdedf03ada1361d5fa01b0e6f43"), looks := false }, kinds := [], alts := [], laidByText := true, laidKinds := [.data, .data, .data], laidTests := true, laidLooks := .later }
def LegSaysCardSaid : Prop := Claim7.holds Tryz.pinned (.plain (OpenSpec.ofChange legSaysSpec)) legSaysCard

/-- THE TIED CARD OF 'pendentivelaw16.LegEnds'. -/
def legEndsCard : Claim7 := { stood := { row := legEndsRow, standIns := [], harness := (true, "953736f73dd7a6b06dbbf3f58798e7bb4ecaecdedf03ada1361d5fa01b0e6f43"), looks := false }, kinds := [], alts := [], laidByText := true, laidKinds := [.data, .data, .data], laidTests := true, laidLooks := .later }
def LegEndsCardSaid : Prop := Claim7.holds Tryz.pinned (.plain (OpenSpec.ofChange legEndsSpec)) legEndsCard

/-- THE TIED CARD OF 'pendentivelaw16.LegReads'. -/
def legReadsCard : Claim7 := { stood := { row := legReadsRow, standIns := [], harness := (true, "953736f73dd7a6b06dbbf3f58798e7bb4ecaecdedf03ada1361d5fa01b0e6f43"), looks := false }, kinds := [], alts := [], laidByText := true, laidKinds := [.data, .data, .data], laidTests := true, laidLooks := .later }
def LegReadsCardSaid : Prop := Claim7.holds Tryz.pinned (.plain (OpenSpec.ofChange legReadsSpec)) legReadsCard

/-- THE TIED CARD OF 'pendentivelaw16.LegBound'. -/
def legBoundCard : Claim7 := { stood := { row := legBoundRow, standIns := [], harness := (true, "953736f73dd7a6b06dbbf3f58798e7bb4ecaecdedf03ada1361d5fa01b0e6f43"), looks := false }, kinds := [], alts := [], laidByText := true, laidKinds := [.data, .data, .data], laidTests := true, laidLooks := .later }
def LegBoundCardSaid : Prop := Claim7.holds Tryz.pinned (.plain (OpenSpec.ofChange legBoundSpec)) legBoundCard

/-- THE TIED CARD OF 'pendentivelaw16.LegBoth'. -/
def legBothCard : Claim7 := { stood := { row := legBothRow, standIns := [], harness := (true, "953736f73dd7a6b06dbbf3f58798e7bb4ecaecdedf03ada1361d5fa01b0e6f43"), looks := false }, kinds := [], alts := [], laidByText := true, laidKinds := [.data, .data, .data], laidTests := true, laidLooks := .later }
def LegBothCardSaid : Prop := Claim7.holds Tryz.pinned (.plain (OpenSpec.ofChange legBothSpec)) legBothCard

/-- THE TIED CARD OF 'pendentivelaw16.LegPongs'. -/
def legPongsCard : Claim7 := { stood := { row := legPongsRow, standIns := [], harness := (true, "953736f73dd7a6b06dbbf3f58798e7bb4ecaecdedf03ada1361d5fa01b0e6f43"), looks := false }, kinds := [], alts := [], laidByText := true, laidKinds := [.data, .data, .data], laidTests := true, laidLooks := .later }
def LegPongsCardSaid : Prop := Claim7.holds Tryz.pinned (.plain (OpenSpec.ofChange legPongsSpec)) legPongsCard

/-- THE TIED CARD OF 'pendentivelaw16.LegFree'. -/
def legFreeCard : Claim7 := { stood := { row := legFreeRow, standIns := [], harness := (true, "953736f73dd7a6b06dbbf3f58798e7bb4ecaecdedf03ada1361d5fa01b0e6f43"), looks := false }, kinds := [], alts := [], laidByText := true, laidKinds := [.data, .data, .data], laidTests := true, laidLooks := .later }
def LegFreeCardSaid : Prop := Claim7.holds Tryz.pinned (.plain (OpenSpec.ofChange legFreeSpec)) legFreeCard

/-- THE SECOND FORM's CARD OF 'pendentivelaw16.LegPlays'. -/
def legPlaysUptoCard : Claim7 := { stood := { row := legPlaysUptoRow, standIns := [], harness := (true, "953736f73dd7a6b06dbbf3f58798e7bb4ecaecdedf03ada1361d5fa01b0e6f43"), looks := false }, kinds := [], alts := [], laidByText := true, laidKinds := [.data, .data, .data], laidTests := true, laidLooks := .later }
def LegPlaysUptoCardSaid : Prop := Claim7.holds Tryz.pinned (.plain (OpenSpec.upto legPlaysSpec)) legPlaysUptoCard

/-- THE SECOND FORM's CARD OF 'pendentivelaw16.LegSays'. -/
def legSaysUptoCard : Claim7 := { stood := { row := legSaysUptoRow, standIns := [], harness := (true, "953736f73dd7a6b06dbbf3f58798e7bb4ecaecdedf03ada1361d5fa01b0e6f43"), looks := false }, kinds := [], alts := [], laidByText := true, laidKinds := [.data, .data, .data], laidTests := true, laidLooks := .later }
def LegSaysUptoCardSaid : Prop := Claim7.holds Tryz.pinned (.plain (OpenSpec.upto legSaysSpec)) legSaysUptoCard

/-- THE SECOND FORM's CARD OF 'pendentivelaw16.LegEnds'. -/
def legEndsUptoCard : Claim7 := { stood := { row := legEndsUptoRow, standIns := [], harness := (true, "953736f73dd7a6b06dbbf3f58798e7bb4ecaecdedf03ada1361d5fa01b0e6f43"), looks := false }, kinds := [], alts := [], laidByText := true, laidKinds := [.data, .data, .data], laidTests := true, laidLooks := .later }
def LegEndsUptoCardSaid : Prop := Claim7.holds Tryz.pinned (.plain (OpenSpec.upto legEndsSpec)) legEndsUptoCard

/-- THE SECOND FORM's CARD OF 'pendentivelaw16.LegReads'. -/
def legReadsUptoCard : Claim7 := { stood := { row := legReadsUptoRow, standIns := [], harness := (true, "953736f73dd7a6b06dbbf3f58798e7bb4ecaecdedf03ada1361d5fa01b0e6f43"), looks := false }, kinds := [], alts := [], laidByText := true, laidKinds := [.data, .data, .data], laidTests := true, laidLooks := .later }
def LegReadsUptoCardSaid : Prop := Claim7.holds Tryz.pinned (.plain (OpenSpec.upto legReadsSpec)) legReadsUptoCard

/-- THE SECOND FORM's CARD OF 'pendentivelaw16.LegBound'. -/
def legBoundUptoCard : Claim7 := { stood := { row := legBoundUptoRow, standIns := [], harness := (true, "953736f73dd7a6b06dbbf3f58798e7bb4ecaecdedf03ada1361d5fa01b0e6f43"), looks := false }, kinds := [], alts := [], laidByText := true, laidKinds := [.data, .data, .data], laidTests := true, laidLooks := .later }
def LegBoundUptoCardSaid : Prop := Claim7.holds Tryz.pinned (.plain (OpenSpec.upto legBoundSpec)) legBoundUptoCard

/-- THE SECOND FORM's CARD OF 'pendentivelaw16.LegBoth'. -/
def legBothUptoCard : Claim7 := { stood := { row := legBothUptoRow, standIns := [], harness := (true, "953736f73dd7a6b06dbbf3f58798e7bb4ecaecdedf03ada1361d5fa01b0e6f43"), looks := false }, kinds := [], alts := [], laidByText := true, laidKinds := [.data, .data, .data], laidTests := true, laidLooks := .later }
def LegBothUptoCardSaid : Prop := Claim7.holds Tryz.pinned (.plain (OpenSpec.upto legBothSpec)) legBothUptoCard

/-- THE SECOND FORM's CARD OF 'pendentivelaw16.LegPongs'. -/
def legPongsUptoCard : Claim7 := { stood := { row := legPongsUptoRow, standIns := [], harness := (true, "953736f73dd7a6b06dbbf3f58798e7bb4ecaecdedf03ada1361d5fa01b0e6f43"), looks := false }, kinds := [], alts := [], laidByText := true, laidKinds := [.data, .data, .data], laidTests := true, laidLooks := .later }
def LegPongsUptoCardSaid : Prop := Claim7.holds Tryz.pinned (.plain (OpenSpec.upto legPongsSpec)) legPongsUptoCard

/-- THE SECOND FORM's CARD OF 'pendentivelaw16.LegFree'. -/
def legFreeUptoCard : Claim7 := { stood := { row := legFreeUptoRow, standIns := [], harness := (true, "953736f73dd7a6b06dbbf3f58798e7bb4ecaecdedf03ada1361d5fa01b0e6f43"), looks := false }, kinds := [], alts := [], laidByText := true, laidKinds := [.data, .data, .data], laidTests := true, laidLooks := .later }
def LegFreeUptoCardSaid : Prop := Claim7.holds Tryz.pinned (.plain (OpenSpec.upto legFreeSpec)) legFreeUptoCard
end Rows
end Go.Proofs.YtlahonjmfecikaaGreatDoor
