/-
  DERIVED. GIVEN WITH THE SEED: THE CARDS: each row of YtcelhondifaloaaDoorRows.lean that lists a variable, with what it lists TIED to the program's text (the seventh form; the later family's looks); each row that meets fmt, with fmt's text TOLD by the authors' own Lean function (tested against real Go, not proved from fmt's source: count such statements apart). THE CARD IS WHAT COUNTS. Prove the row's statement (the work); the ties are given (YtcelhondifaloaaDoorTie.lean); close each card by the builder's one call (the guide's Derived/Test/ToyasCard.lean, 'card_holds'). Laid BY PROGRAM, IN A SANDBOX (cutbox-door.mjs). By AI agents, Wed Nov 11 2026. No macro, syntax, notation, axiom, sorry.
-/
import Derived.Test.YtcelhondifaloaaDoorRows
import GoSem.ClaimSeven
namespace Go.Proofs.YtcelhondifaloaaDoor
namespace Rows

/-- THE TIED CARD OF 'pendentivelaw09.FramePuts'. -/
def framePutsCard : Claim7 := { stood := { row := framePutsRow, standIns := [], harness := (true, "2f3f80bf2195c1e38ca9da08b57c4c0a0ca55df15646b855476614ebfff5debf"), looks := false }, kinds := [], alts := [], laidByText := true, laidKinds := [.data], laidTests := true, laidLooks := .later }
def FramePutsCardSaid : Prop := Claim7.holds Tryd.pinned (.plain (OpenSpec.ofChange framePutsSpec)) framePutsCard

/-- THE TIED CARD OF 'pendentivelaw09.FrameGets'. -/
def frameGetsCard : Claim7 := { stood := { row := frameGetsRow, standIns := [], harness := (true, "2f3f80bf2195c1e38ca9da08b57c4c0a0ca55df15646b855476614ebfff5debf"), looks := false }, kinds := [], alts := [], laidByText := true, laidKinds := [.data], laidTests := true, laidLooks := .later }
def FrameGetsCardSaid : Prop := Claim7.holds Tryd.pinned (.plain (OpenSpec.ofChange frameGetsSpec)) frameGetsCard

/-- THE TIED CARD OF 'pendentivelaw09.FrameSoon'. -/
def frameSoonCard : Claim7 := { stood := { row := frameSoonRow, standIns := [], harness := (true, "2f3f80bf2195c1e38ca9da08b57c4c0a0ca55df15646b855476614ebfff5debf"), looks := false }, kinds := [], alts := [], laidByText := true, laidKinds := [.data], laidTests := true, laidLooks := .later }
def FrameSoonCardSaid : Prop := Claim7.holds Tryd.pinned (.plain (OpenSpec.ofChange frameSoonSpec)) frameSoonCard

/-- THE TIED CARD OF 'pendentivelaw09.FrameBack'. -/
def frameBackCard : Claim7 := { stood := { row := frameBackRow, standIns := [], harness := (true, "2f3f80bf2195c1e38ca9da08b57c4c0a0ca55df15646b855476614ebfff5debf"), looks := false }, kinds := [], alts := [], laidByText := true, laidKinds := [.data], laidTests := true, laidLooks := .later }
def FrameBackCardSaid : Prop := Claim7.holds Tryd.pinned (.plain (OpenSpec.ofChange frameBackSpec)) frameBackCard

/-- THE TIED CARD OF 'pendentivelaw09.FrameMasks'. -/
def frameMasksCard : Claim7 := { stood := { row := frameMasksRow, standIns := [], harness := (true, "2f3f80bf2195c1e38ca9da08b57c4c0a0ca55df15646b855476614ebfff5debf"), looks := false }, kinds := [], alts := [], laidByText := true, laidKinds := [.data], laidTests := true, laidLooks := .later }
def FrameMasksCardSaid : Prop := Claim7.holds Tryd.pinned (.plain (OpenSpec.ofChange frameMasksSpec)) frameMasksCard

/-- THE TIED CARD OF 'pendentivelaw09.FrameTwo'. -/
def frameTwoCard : Claim7 := { stood := { row := frameTwoRow, standIns := [], harness := (true, "2f3f80bf2195c1e38ca9da08b57c4c0a0ca55df15646b855476614ebfff5debf"), looks := false }, kinds := [], alts := [], laidByText := true, laidKinds := [.data], laidTests := true, laidLooks := .later }
def FrameTwoCardSaid : Prop := Claim7.holds Tryd.pinned (.plain (OpenSpec.ofChange frameTwoSpec)) frameTwoCard

/-- THE TIED CARD OF 'pendentivelaw09.FrameOver'. -/
def frameOverCard : Claim7 := { stood := { row := frameOverRow, standIns := [], harness := (true, "2f3f80bf2195c1e38ca9da08b57c4c0a0ca55df15646b855476614ebfff5debf"), looks := false }, kinds := [], alts := [], laidByText := true, laidKinds := [.data], laidTests := true, laidLooks := .later }
def FrameOverCardSaid : Prop := Claim7.holds Tryd.pinned (.plain (OpenSpec.ofChange frameOverSpec)) frameOverCard

/-- THE SECOND FORM's CARD OF 'pendentivelaw09.FramePuts'. -/
def framePutsUptoCard : Claim7 := { stood := { row := framePutsUptoRow, standIns := [], harness := (true, "2f3f80bf2195c1e38ca9da08b57c4c0a0ca55df15646b855476614ebfff5debf"), looks := false }, kinds := [], alts := [], laidByText := true, laidKinds := [.data], laidTests := true, laidLooks := .later }
def FramePutsUptoCardSaid : Prop := Claim7.holds Tryd.pinned (.plain (OpenSpec.upto framePutsSpec)) framePutsUptoCard

/-- THE SECOND FORM's CARD OF 'pendentivelaw09.FrameGets'. -/
def frameGetsUptoCard : Claim7 := { stood := { row := frameGetsUptoRow, standIns := [], harness := (true, "2f3f80bf2195c1e38ca9da08b57c4c0a0ca55df15646b855476614ebfff5debf"), looks := false }, kinds := [], alts := [], laidByText := true, laidKinds := [.data], laidTests := true, laidLooks := .later }
def FrameGetsUptoCardSaid : Prop := Claim7.holds Tryd.pinned (.plain (OpenSpec.upto frameGetsSpec)) frameGetsUptoCard

/-- THE SECOND FORM's CARD OF 'pendentivelaw09.FrameSoon'. -/
def frameSoonUptoCard : Claim7 := { stood := { row := frameSoonUptoRow, standIns := [], harness := (true, "2f3f80bf2195c1e38ca9da08b57c4c0a0ca55df15646b855476614ebfff5debf"), looks := false }, kinds := [], alts := [], laidByText := true, laidKinds := [.data], laidTests := true, laidLooks := .later }
def FrameSoonUptoCardSaid : Prop := Claim7.holds Tryd.pinned (.plain (OpenSpec.upto frameSoonSpec)) frameSoonUptoCard

/-- THE SECOND FORM's CARD OF 'pendentivelaw09.FrameBack'. -/
def frameBackUptoCard : Claim7 := { stood := { row := frameBackUptoRow, standIns := [], harness := (true, "2f3f80bf2195c1e38ca9da08b57c4c0a0ca55df15646b855476614ebfff5debf"), looks := false }, kinds := [], alts := [], laidByText := true, laidKinds := [.data], laidTests := true, laidLooks := .later }
def FrameBackUptoCardSaid : Prop := Claim7.holds Tryd.pinned (.plain (OpenSpec.upto frameBackSpec)) frameBackUptoCard

/-- THE SECOND FORM's CARD OF 'pendentivelaw09.FrameMasks'. -/
def frameMasksUptoCard : Claim7 := { stood := { row := frameMasksUptoRow, standIns := [], harness := (true, "2f3f80bf2195c1e38ca9da08b57c4c0a0ca55df15646b855476614ebfff5debf"), looks := false }, kinds := [], alts := [], laidByText := true, laidKinds := [.data], laidTests := true, laidLooks := .later }
def FrameMasksUptoCardSaid : Prop := Claim7.holds Tryd.pinned (.plain (OpenSpec.upto frameMasksSpec)) frameMasksUptoCard

/-- THE SECOND FORM's CARD OF 'pendentivelaw09.FrameTwo'. -/
def frameTwoUptoCard : Claim7 := { stood := { row := frameTwoUptoRow, standIns := [], harness := (true, "2f3f80bf2195c1e38ca9da08b57c4c0a0ca55df15646b855476614ebfff5debf"), looks := false }, kinds := [], alts := [], laidByText := true, laidKinds := [.data], laidTests := true, laidLooks := .later }
def FrameTwoUptoCardSaid : Prop := Claim7.holds Tryd.pinned (.plain (OpenSpec.upto frameTwoSpec)) frameTwoUptoCard

/-- THE SECOND FORM's CARD OF 'pendentivelaw09.FrameOver'. -/
def frameOverUptoCard : Claim7 := { stood := { row := frameOverUptoRow, standIns := [], harness := (true, "2f3f80bf2195c1e38ca9da08b57c4c0a0ca55df15646b855476614ebfff5debf"), looks := false }, kinds := [], alts := [], laidByText := true, laidKinds := [.data], laidTests := true, laidLooks := .later }
def FrameOverUptoCardSaid : Prop := Claim7.holds Tryd.pinned (.plain (OpenSpec.upto frameOverSpec)) frameOverUptoCard
end Rows
end Go.Proofs.YtcelhondifaloaaDoor
