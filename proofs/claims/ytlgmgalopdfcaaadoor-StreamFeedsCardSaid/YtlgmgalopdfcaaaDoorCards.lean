/-
  DERIVED. GIVEN WITH THE SEED: THE CARDS: each row of YtlgmgalopdfcaaaDoorRows.lean that lists a variable, with what it lists TIED to the program's text (the seventh form; the later family's looks); each row that meets fmt, with fmt's text TOLD by the authors' own Lean function (tested against real Go, not proved from fmt's source: count such statements apart). THE CARD IS WHAT COUNTS. Prove the row's statement (the work); the ties are given (YtlgmgalopdfcaaaDoorTie.lean); close each card by the builder's one call (the guide's Derived/Test/ToyasCard.lean, 'card_holds'). Laid BY PROGRAM, IN A SANDBOX (cutbox-door.mjs). By AI agents, Wed Nov 11 2026. No macro, syntax, notation, axiom, sorry.
-/
import Derived.Test.YtlgmgalopdfcaaaDoorRows
import GoSem.ClaimSeven
namespace Go.Proofs.YtlgmgalopdfcaaaDoor
namespace Rows

/-- THE TIED CARD OF 'pendentivelaw10.StreamFeeds'. -/
def streamFeedsCard : Claim7 := { stood := { row := streamFeedsRow, standIns := [], harness := (true, "c527458046d37482d82b5d316252ec06d18e88ba167b0df1776b421bdfd12235"), looks := false }, kinds := [], alts := [], laidByText := true, laidKinds := [.data], laidTests := true, laidLooks := .later }
def StreamFeedsCardSaid : Prop := Claim7.holds Tryd.pinned (.plain (OpenSpec.ofChange streamFeedsSpec)) streamFeedsCard

/-- THE TIED CARD OF 'pendentivelaw10.StreamCuts'. -/
def streamCutsCard : Claim7 := { stood := { row := streamCutsRow, standIns := [], harness := (true, "c527458046d37482d82b5d316252ec06d18e88ba167b0df1776b421bdfd12235"), looks := false }, kinds := [], alts := [], laidByText := true, laidKinds := [.data], laidTests := true, laidLooks := .later }
def StreamCutsCardSaid : Prop := Claim7.holds Tryd.pinned (.plain (OpenSpec.ofChange streamCutsSpec)) streamCutsCard

/-- THE TIED CARD OF 'pendentivelaw10.StreamBack'. -/
def streamBackCard : Claim7 := { stood := { row := streamBackRow, standIns := [], harness := (true, "c527458046d37482d82b5d316252ec06d18e88ba167b0df1776b421bdfd12235"), looks := false }, kinds := [], alts := [], laidByText := true, laidKinds := [.data], laidTests := true, laidLooks := .later }
def StreamBackCardSaid : Prop := Claim7.holds Tryd.pinned (.plain (OpenSpec.ofChange streamBackSpec)) streamBackCard

/-- THE TIED CARD OF 'pendentivelaw10.StreamStops'. -/
def streamStopsCard : Claim7 := { stood := { row := streamStopsRow, standIns := [], harness := (true, "c527458046d37482d82b5d316252ec06d18e88ba167b0df1776b421bdfd12235"), looks := false }, kinds := [], alts := [], laidByText := true, laidKinds := [.data], laidTests := true, laidLooks := .later }
def StreamStopsCardSaid : Prop := Claim7.holds Tryd.pinned (.plain (OpenSpec.ofChange streamStopsSpec)) streamStopsCard

/-- THE TIED CARD OF 'pendentivelaw10.StreamPart'. -/
def streamPartCard : Claim7 := { stood := { row := streamPartRow, standIns := [], harness := (true, "c527458046d37482d82b5d316252ec06d18e88ba167b0df1776b421bdfd12235"), looks := false }, kinds := [], alts := [], laidByText := true, laidKinds := [.data], laidTests := true, laidLooks := .later }
def StreamPartCardSaid : Prop := Claim7.holds Tryd.pinned (.plain (OpenSpec.ofChange streamPartSpec)) streamPartCard

/-- THE TIED CARD OF 'pendentivelaw10.StreamEach'. -/
def streamEachCard : Claim7 := { stood := { row := streamEachRow, standIns := [], harness := (true, "c527458046d37482d82b5d316252ec06d18e88ba167b0df1776b421bdfd12235"), looks := false }, kinds := [], alts := [], laidByText := true, laidKinds := [.data], laidTests := true, laidLooks := .later }
def StreamEachCardSaid : Prop := Claim7.holds Tryd.pinned (.plain (OpenSpec.ofChange streamEachSpec)) streamEachCard

/-- THE SECOND FORM's CARD OF 'pendentivelaw10.StreamFeeds'. -/
def streamFeedsUptoCard : Claim7 := { stood := { row := streamFeedsUptoRow, standIns := [], harness := (true, "c527458046d37482d82b5d316252ec06d18e88ba167b0df1776b421bdfd12235"), looks := false }, kinds := [], alts := [], laidByText := true, laidKinds := [.data], laidTests := true, laidLooks := .later }
def StreamFeedsUptoCardSaid : Prop := Claim7.holds Tryd.pinned (.plain (OpenSpec.upto streamFeedsSpec)) streamFeedsUptoCard

/-- THE SECOND FORM's CARD OF 'pendentivelaw10.StreamCuts'. -/
def streamCutsUptoCard : Claim7 := { stood := { row := streamCutsUptoRow, standIns := [], harness := (true, "c527458046d37482d82b5d316252ec06d18e88ba167b0df1776b421bdfd12235"), looks := false }, kinds := [], alts := [], laidByText := true, laidKinds := [.data], laidTests := true, laidLooks := .later }
def StreamCutsUptoCardSaid : Prop := Claim7.holds Tryd.pinned (.plain (OpenSpec.upto streamCutsSpec)) streamCutsUptoCard

/-- THE SECOND FORM's CARD OF 'pendentivelaw10.StreamBack'. -/
def streamBackUptoCard : Claim7 := { stood := { row := streamBackUptoRow, standIns := [], harness := (true, "c527458046d37482d82b5d316252ec06d18e88ba167b0df1776b421bdfd12235"), looks := false }, kinds := [], alts := [], laidByText := true, laidKinds := [.data], laidTests := true, laidLooks := .later }
def StreamBackUptoCardSaid : Prop := Claim7.holds Tryd.pinned (.plain (OpenSpec.upto streamBackSpec)) streamBackUptoCard

/-- THE SECOND FORM's CARD OF 'pendentivelaw10.StreamStops'. -/
def streamStopsUptoCard : Claim7 := { stood := { row := streamStopsUptoRow, standIns := [], harness := (true, "c527458046d37482d82b5d316252ec06d18e88ba167b0df1776b421bdfd12235"), looks := false }, kinds := [], alts := [], laidByText := true, laidKinds := [.data], laidTests := true, laidLooks := .later }
def StreamStopsUptoCardSaid : Prop := Claim7.holds Tryd.pinned (.plain (OpenSpec.upto streamStopsSpec)) streamStopsUptoCard

/-- THE SECOND FORM's CARD OF 'pendentivelaw10.StreamPart'. -/
def streamPartUptoCard : Claim7 := { stood := { row := streamPartUptoRow, standIns := [], harness := (true, "c527458046d37482d82b5d316252ec06d18e88ba167b0df1776b421bdfd12235"), looks := false }, kinds := [], alts := [], laidByText := true, laidKinds := [.data], laidTests := true, laidLooks := .later }
def StreamPartUptoCardSaid : Prop := Claim7.holds Tryd.pinned (.plain (OpenSpec.upto streamPartSpec)) streamPartUptoCard

/-- THE SECOND FORM's CARD OF 'pendentivelaw10.StreamEach'. -/
def streamEachUptoCard : Claim7 := { stood := { row := streamEachUptoRow, standIns := [], harness := (true, "c527458046d37482d82b5d316252ec06d18e88ba167b0df1776b421bdfd12235"), looks := false }, kinds := [], alts := [], laidByText := true, laidKinds := [.data], laidTests := true, laidLooks := .later }
def StreamEachUptoCardSaid : Prop := Claim7.holds Tryd.pinned (.plain (OpenSpec.upto streamEachSpec)) streamEachUptoCard
end Rows
end Go.Proofs.YtlgmgalopdfcaaaDoor
