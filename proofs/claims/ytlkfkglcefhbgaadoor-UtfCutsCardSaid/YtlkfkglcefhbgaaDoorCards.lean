/-
  DERIVED. GIVEN WITH THE SEED: THE CARDS: each row of YtlkfkglcefhbgaaDoorRows.lean that lists a variable, with what it lists TIED to the program's text (the seventh form; the later family's looks); each row that meets fmt, with fmt's text TOLD by the authors' own Lean function (tested against real Go, not proved from fmt's source: count such statements apart). THE CARD IS WHAT COUNTS. Prove the row's statement (the work); the ties are given (YtlkfkglcefhbgaaDoorTie.lean); close each card by the builder's one call (the guide's Derived/Test/ToyasCard.lean, 'card_holds'). Laid BY PROGRAM, IN A SANDBOX (cutbox-door.mjs). By AI agents, Wed Nov 11 2026. No macro, syntax, notation, axiom, sorry.
-/
import Derived.Test.YtlkfkglcefhbgaaDoorRows
import GoSem.ClaimSeven
namespace Go.Proofs.YtlkfkglcefhbgaaDoor
namespace Rows

/-- THE TIED CARD OF 'pendentivelaw03.UtfReads'. -/
def utfReadsCard : Claim7 := { stood := { row := utfReadsRow, standIns := [], harness := (true, "28c8c5902e23161ece62fbe4fb1de9f9730adab853ead4e4fa41e467c1d12ff4"), looks := false }, kinds := [], alts := [], laidByText := true, laidKinds := [.data], laidTests := true, laidLooks := .later }
def UtfReadsCardSaid : Prop := Claim7.holds Tryd.pinned (.plain (OpenSpec.ofChange utfReadsSpec)) utfReadsCard

/-- THE TIED CARD OF 'pendentivelaw03.UtfLetter'. -/
def utfLetterCard : Claim7 := { stood := { row := utfLetterRow, standIns := [], harness := (true, "28c8c5902e23161ece62fbe4fb1de9f9730adab853ead4e4fa41e467c1d12ff4"), looks := false }, kinds := [], alts := [], laidByText := true, laidKinds := [.data], laidTests := true, laidLooks := .later }
def UtfLetterCardSaid : Prop := Claim7.holds Tryd.pinned (.plain (OpenSpec.ofChange utfLetterSpec)) utfLetterCard

/-- THE TIED CARD OF 'pendentivelaw03.UtfCuts'. -/
def utfCutsCard : Claim7 := { stood := { row := utfCutsRow, standIns := [], harness := (true, "28c8c5902e23161ece62fbe4fb1de9f9730adab853ead4e4fa41e467c1d12ff4"), looks := false }, kinds := [], alts := [], laidByText := true, laidKinds := [.data], laidTests := true, laidLooks := .later }
def UtfCutsCardSaid : Prop := Claim7.holds Tryd.pinned (.plain (OpenSpec.ofChange utfCutsSpec)) utfCutsCard

/-- THE TIED CARD OF 'pendentivelaw03.UtfJoins'. -/
def utfJoinsCard : Claim7 := { stood := { row := utfJoinsRow, standIns := [], harness := (true, "28c8c5902e23161ece62fbe4fb1de9f9730adab853ead4e4fa41e467c1d12ff4"), looks := false }, kinds := [], alts := [], laidByText := true, laidKinds := [.data], laidTests := true, laidLooks := .later }
def UtfJoinsCardSaid : Prop := Claim7.holds Tryd.pinned (.plain (OpenSpec.ofChange utfJoinsSpec)) utfJoinsCard

/-- THE TIED CARD OF 'pendentivelaw03.UtfBegins'. -/
def utfBeginsCard : Claim7 := { stood := { row := utfBeginsRow, standIns := [], harness := (true, "28c8c5902e23161ece62fbe4fb1de9f9730adab853ead4e4fa41e467c1d12ff4"), looks := false }, kinds := [], alts := [], laidByText := true, laidKinds := [.data], laidTests := true, laidLooks := .later }
def UtfBeginsCardSaid : Prop := Claim7.holds Tryd.pinned (.plain (OpenSpec.ofChange utfBeginsSpec)) utfBeginsCard

/-- THE TIED CARD OF 'pendentivelaw03.UtfCounts'. -/
def utfCountsCard : Claim7 := { stood := { row := utfCountsRow, standIns := [], harness := (true, "28c8c5902e23161ece62fbe4fb1de9f9730adab853ead4e4fa41e467c1d12ff4"), looks := false }, kinds := [], alts := [], laidByText := true, laidKinds := [.data], laidTests := true, laidLooks := .later }
def UtfCountsCardSaid : Prop := Claim7.holds Tryd.pinned (.plain (OpenSpec.ofChange utfCountsSpec)) utfCountsCard

/-- THE TIED CARD OF 'pendentivelaw03.UtfAscii'. -/
def utfAsciiCard : Claim7 := { stood := { row := utfAsciiRow, standIns := [], harness := (true, "28c8c5902e23161ece62fbe4fb1de9f9730adab853ead4e4fa41e467c1d12ff4"), looks := false }, kinds := [], alts := [], laidByText := true, laidKinds := [.data], laidTests := true, laidLooks := .later }
def UtfAsciiCardSaid : Prop := Claim7.holds Tryd.pinned (.plain (OpenSpec.ofChange utfAsciiSpec)) utfAsciiCard

/-- THE SECOND FORM's CARD OF 'pendentivelaw03.UtfReads'. -/
def utfReadsUptoCard : Claim7 := { stood := { row := utfReadsUptoRow, standIns := [], harness := (true, "28c8c5902e23161ece62fbe4fb1de9f9730adab853ead4e4fa41e467c1d12ff4"), looks := false }, kinds := [], alts := [], laidByText := true, laidKinds := [.data], laidTests := true, laidLooks := .later }
def UtfReadsUptoCardSaid : Prop := Claim7.holds Tryd.pinned (.plain (OpenSpec.upto utfReadsSpec)) utfReadsUptoCard

/-- THE SECOND FORM's CARD OF 'pendentivelaw03.UtfLetter'. -/
def utfLetterUptoCard : Claim7 := { stood := { row := utfLetterUptoRow, standIns := [], harness := (true, "28c8c5902e23161ece62fbe4fb1de9f9730adab853ead4e4fa41e467c1d12ff4"), looks := false }, kinds := [], alts := [], laidByText := true, laidKinds := [.data], laidTests := true, laidLooks := .later }
def UtfLetterUptoCardSaid : Prop := Claim7.holds Tryd.pinned (.plain (OpenSpec.upto utfLetterSpec)) utfLetterUptoCard

/-- THE SECOND FORM's CARD OF 'pendentivelaw03.UtfCuts'. -/
def utfCutsUptoCard : Claim7 := { stood := { row := utfCutsUptoRow, standIns := [], harness := (true, "28c8c5902e23161ece62fbe4fb1de9f9730adab853ead4e4fa41e467c1d12ff4"), looks := false }, kinds := [], alts := [], laidByText := true, laidKinds := [.data], laidTests := true, laidLooks := .later }
def UtfCutsUptoCardSaid : Prop := Claim7.holds Tryd.pinned (.plain (OpenSpec.upto utfCutsSpec)) utfCutsUptoCard

/-- THE SECOND FORM's CARD OF 'pendentivelaw03.UtfJoins'. -/
def utfJoinsUptoCard : Claim7 := { stood := { row := utfJoinsUptoRow, standIns := [], harness := (true, "28c8c5902e23161ece62fbe4fb1de9f9730adab853ead4e4fa41e467c1d12ff4"), looks := false }, kinds := [], alts := [], laidByText := true, laidKinds := [.data], laidTests := true, laidLooks := .later }
def UtfJoinsUptoCardSaid : Prop := Claim7.holds Tryd.pinned (.plain (OpenSpec.upto utfJoinsSpec)) utfJoinsUptoCard

/-- THE SECOND FORM's CARD OF 'pendentivelaw03.UtfBegins'. -/
def utfBeginsUptoCard : Claim7 := { stood := { row := utfBeginsUptoRow, standIns := [], harness := (true, "28c8c5902e23161ece62fbe4fb1de9f9730adab853ead4e4fa41e467c1d12ff4"), looks := false }, kinds := [], alts := [], laidByText := true, laidKinds := [.data], laidTests := true, laidLooks := .later }
def UtfBeginsUptoCardSaid : Prop := Claim7.holds Tryd.pinned (.plain (OpenSpec.upto utfBeginsSpec)) utfBeginsUptoCard

/-- THE SECOND FORM's CARD OF 'pendentivelaw03.UtfCounts'. -/
def utfCountsUptoCard : Claim7 := { stood := { row := utfCountsUptoRow, standIns := [], harness := (true, "28c8c5902e23161ece62fbe4fb1de9f9730adab853ead4e4fa41e467c1d12ff4"), looks := false }, kinds := [], alts := [], laidByText := true, laidKinds := [.data], laidTests := true, laidLooks := .later }
def UtfCountsUptoCardSaid : Prop := Claim7.holds Tryd.pinned (.plain (OpenSpec.upto utfCountsSpec)) utfCountsUptoCard

/-- THE SECOND FORM's CARD OF 'pendentivelaw03.UtfAscii'. -/
def utfAsciiUptoCard : Claim7 := { stood := { row := utfAsciiUptoRow, standIns := [], harness := (true, "28c8c5902e23161ece62fbe4fb1de9f9730adab853ead4e4fa41e467c1d12ff4"), looks := false }, kinds := [], alts := [], laidByText := true, laidKinds := [.data], laidTests := true, laidLooks := .later }
def UtfAsciiUptoCardSaid : Prop := Claim7.holds Tryd.pinned (.plain (OpenSpec.upto utfAsciiSpec)) utfAsciiUptoCard
end Rows
end Go.Proofs.YtlkfkglcefhbgaaDoor
