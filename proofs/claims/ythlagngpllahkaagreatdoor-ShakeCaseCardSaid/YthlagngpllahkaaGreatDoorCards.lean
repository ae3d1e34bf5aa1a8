/-
  DERIVED. GIVEN WITH THE SEED: THE CARDS: each row of YthlagngpllahkaaGreatDoorRows.lean that lists a variable, with what it lists TIED to the program's text (the seventh form; the later family's looks); each row that meets fmt, with fmt's text TOLD by the authors' own Lean function (tested against real Go, not proved from fmt's source: count such statements apart). THE CARD IS WHAT COUNTS. Prove the row's statement (the work); the ties are given (YthlagngpllahkaaGreatDoorTie.lean); close each card by the builder's one call (the guide's Derived/Test/ToyasCard.lean, 'card_holds'). Laid BY PROGRAM, IN A SANDBOX (cutbox-door.mjs). By AI agents, Wed Nov 11 2026. No macro, syntax, notation, axiom, sorry.
-/
import Derived.Test.YthlagngpllahkaaGreatDoorRows
import GoSem.ClaimSeven
namespace Go.Proofs.YthlagngpllahkaaGreatDoor
namespace Rows

/-- THE TIED CARD OF 'pendentivelaw07.ShakeQuestion'. -/
def shakeQuestionCard : Claim7 := { stood := { row := shakeQuestionRow, standIns := [], harness := (true, "d6c486e64cfb8fa0fd45f341bb51345bfae8fabe37e0bd4fce24459a28abea30"), looks := false }, kinds := [], alts := [], laidByText := true, laidKinds := [.data, .data, .data, .data, .data, .data, .data, .data, .pinned], laidTests := true, laidLooks := .later }
def ShakeQuestionCardSaid : Prop := Claim7.holds Tryz.pinned (.plain (OpenSpec.ofChange shakeQuestionSpec)) shakeQuestionCard

/-- THE TIED CARD OF 'pendentivelaw07.ShakeAnswer'. -/
def shakeAnswerCard : Claim7 := { stood := { row := shakeAnswerRow, standIns := [], harness := (true, "d6c486e64cfb8fa0fd45f341bb51345bfae8fabe37e0bd4fce24459a28abea30"), looks := false }, kinds := [], alts := [], laidByText := true, laidKinds := [.data, .data, .data, .data, .data, .data, .data, .data, .pinned], laidTests := true, laidLooks := .later }
def ShakeAnswerCardSaid : Prop := Claim7.holds Tryz.pinned (.plain (OpenSpec.ofChange shakeAnswerSpec)) shakeAnswerCard

/-- THE TIED CARD OF 'pendentivelaw07.ShakeAsk'. -/
def shakeAskCard : Claim7 := { stood := { row := shakeAskRow, standIns := [], harness := (true, "d6c486e64cfb8fa0fd45f341bb51345bfae8fabe37e0bd4fce24459a28abea30"), looks := false }, kinds := [], alts := [], laidByText := true, laidKinds := [.data, .data, .data, .data, .data, .data, .data, .data, .pinned], laidTests := true, laidLooks := .later }
def ShakeAskCardSaid : Prop := Claim7.holds Tryz.pinned (.plain (OpenSpec.ofChange shakeAskSpec)) shakeAskCard

/-- THE TIED CARD OF 'pendentivelaw07.ShakeCheck'. -/
def shakeCheckCard : Claim7 := { stood := { row := shakeCheckRow, standIns := [], harness := (true, "d6c486e64cfb8fa0fd45f341bb51345bfae8fabe37e0bd4fce24459a28abea30"), looks := false }, kinds := [], alts := [], laidByText := true, laidKinds := [.data, .data, .data, .data, .data, .data, .data, .data, .pinned], laidTests := true, laidLooks := .later }
def ShakeCheckCardSaid : Prop := Claim7.holds Tryz.pinned (.plain (OpenSpec.ofChange shakeCheckSpec)) shakeCheckCard

/-- THE TIED CARD OF 'pendentivelaw07.ShakeBoth'. -/
def shakeBothCard : Claim7 := { stood := { row := shakeBothRow, standIns := [], harness := (true, "d6c486e64cfb8fa0fd45f341bb51345bfae8fabe37e0bd4fce24459a28abea30"), looks := false }, kinds := [], alts := [], laidByText := true, laidKinds := [.data, .data, .data, .data, .data, .data, .data, .data, .pinned], laidTests := true, laidLooks := .later }
def ShakeBothCardSaid : Prop := Claim7.holds Tryz.pinned (.plain (OpenSpec.ofChange shakeBothSpec)) shakeBothCard

/-- THE TIED CARD OF 'pendentivelaw07.ShakeCase'. -/
def shakeCaseCard : Claim7 := { stood := { row := shakeCaseRow, standIns := [], harness := (true, "d6c486e64cfb8fa0fd45f341bb51345bfae8fabe37e0bd4fce24459a28abea30"), looks := false }, kinds := [], alts := [], laidByText := true, laidKinds := [.data, .data, .data, .data, .data, .data, .data, .data, .pinned], laidTests := true, laidLooks := .later }
def ShakeCaseCardSaid : Prop := Claim7.holds Tryz.pinned (.plain (OpenSpec.ofChange shakeCaseSpec)) shakeCaseCard

/-- THE TIED CARD OF 'pendentivelaw07.ShakeMore'. -/
def shakeMoreCard : Claim7 := { stood := { row := shakeMoreRow, standIns := [], harness := (true, "d6c486e64cfb8fa0fd45f341bb51345bfae8fabe37e0bd4fce24459a28abea30"), looks := false }, kinds := [], alts := [], laidByText := true, laidKinds := [.data, .data, .data, .data, .data, .data, .data, .data, .pinned], laidTests := true, laidLooks := .later }
def ShakeMoreCardSaid : Prop := Claim7.holds Tryz.pinned (.plain (OpenSpec.ofChange shakeMoreSpec)) shakeMoreCard

/-- THE TIED CARD OF 'pendentivelaw07.ShakeStatus'. -/
def shakeStatusCard : Claim7 := { stood := { row := shakeStatusRow, standIns := [], harness := (true, "d6c486e64cfb8fa0fd45f341bb51345bfae8fabe37e0bd4fce24459a28abea30"), looks := false }, kinds := [], alts := [], laidByText := true, laidKinds := [.data, .data, .data, .data, .data, .data, .data, .data, .pinned], laidTests := true, laidLooks := .later }
def ShakeStatusCardSaid : Prop := Claim7.holds Tryz.pinned (.plain (OpenSpec.ofChange shakeStatusSpec)) shakeStatusCard

/-- THE TIED CARD OF 'pendentivelaw07.ShakeAllows'. -/
def shakeAllowsCard : Claim7 := { stood := { row := shakeAllowsRow, standIns := [], harness := (true, "d6c486e64cfb8fa0fd45f341bb51345bfae8fabe37e0bd4fce24459a28abea30"), looks := false }, kinds := [], alts := [], laidByText := true, laidKinds := [.data, .data, .data, .data, .data, .data, .data, .data, .pinned], laidTests := true, laidLooks := .later }
def ShakeAllowsCardSaid : Prop := Claim7.holds Tryz.pinned (.plain (OpenSpec.ofChange shakeAllowsSpec)) shakeAllowsCard

/-- THE SECOND FORM's CARD OF 'pendentivelaw07.ShakeQuestion'. -/
def shakeQuestionUptoCard : Claim7 := { stood := { row := shakeQuestionUptoRow, standIns := [], harness := (true, "d6c486e64cfb8fa0fd45f341bb51345bfae8fabe37e0bd4fce24459a28abea30"), looks := false }, kinds := [], alts := [], laidByText := true, laidKinds := [.data, .data, .data, .data, .data, .data, .data, .data, .pinned], laidTests := true, laidLooks := .later }
def ShakeQuestionUptoCardSaid : Prop := Claim7.holds Tryz.pinned (.plain (OpenSpec.upto shakeQuestionSpec)) shakeQuestionUptoCard

/-- THE SECOND FORM's CARD OF 'pendentivelaw07.ShakeAnswer'. -/
def shakeAnswerUptoCard : Claim7 := { stood := { row := shakeAnswerUptoRow, standIns := [], harness := (true, "d6c486e64cfb8fa0fd45f341bb51345bfae8fabe37e0bd4fce24459a28abea30"), looks := false }, kinds := [], alts := [], laidByText := true, laidKinds := [.data, .data, .data, .data, .data, .data, .data, .data, .pinned], laidTests := true, laidLooks := .later }
def ShakeAnswerUptoCardSaid : Prop := Claim7.holds Tryz.pinned (.plain (OpenSpec.upto shakeAnswerSpec)) shakeAnswerUptoCard

/-- THE SECOND FORM's CARD OF 'pendentivelaw07.ShakeAsk'. -/
def shakeAskUptoCard : Claim7 := { stood := { row := shakeAskUptoRow, standIns := [], harness := (true, "d6c486e64cfb8fa0fd45f341bb51345bfae8fabe37e0bd4fce24459a28abea30"), looks := false }, kinds := [], alts := [], laidByText := true, laidKinds := [.data, .data, .data, .data, .data, .data, .data, .data, .pinned], laidTests := true, laidLooks := .later }
def ShakeAskUptoCardSaid : Prop := Claim7.holds Tryz.pinned (.plain (OpenSpec.upto shakeAskSpec)) shakeAskUptoCard

/-- THE SECOND FORM's CARD OF 'pendentivelaw07.ShakeCheck'. -/
def shakeCheckUptoCard : Claim7 := { stood := { row := shakeCheckUptoRow, standIns := [], harness := (true, "d6c486e64cfb8fa0fd45f341bb51345bfae8fabe37e0bd4fce24459a28abea30"), looks := false }, kinds := [], alts := [], laidByText := true, laidKinds := [.data, .data, .data, .data, .data, .data, .data, .data, .pinned], laidTests := true, laidLooks := .later }
def ShakeCheckUptoCardSaid : Prop := Claim7.holds Tryz.pinned (.plain (OpenSpec.upto shakeCheckSpec)) shakeCheckUptoCard

/-- THE SECOND FORM's CARD OF 'pendentivelaw07.ShakeBoth'. -/
def shakeBothUptoCard : Claim7 := { stood := { row := shakeBothUptoRow, standIns := [], harness := (true, "d6c486e64cfb8fa0fd45f341bb51345bfae8fabe37e0bd4fce24459a28abea30"), looks := false }, kinds := [], alts := [], laidByText := true, laidKinds := [.data, .data, .data, .data, .data, .data, .data, .data, .pinned], laidTests := true, laidLooks := .later }
def ShakeBothUptoCardSaid : Prop := Claim7.holds Tryz.pinned (.plain (OpenSpec.upto shakeBothSpec)) shakeBothUptoCard

/-- THE SECOND FORM's CARD OF 'pendentivelaw07.ShakeCase'. -/
def shakeCaseUptoCard : Claim7 := { stood := { row := shakeCaseUptoRow, standIns := [], harness := (true, "d6c486e64cfb8fa0fd45f341bb51345bfae8fabe37e0bd4fce24459a28abea30"), looks := false }, kinds := [], alts := [], laidByText := true, laidKinds := [.data, .data, .data, .data, .data, .data, .data, .data, .pinned], laidTests := true, laidLooks := .later }
def ShakeCaseUptoCardSaid : Prop := Claim7.holds Tryz.pinned (.plain (OpenSpec.upto shakeCaseSpec)) shakeCaseUptoCard

/-- THE SECOND FORM's CARD OF 'pendentivelaw07.ShakeMore'. -/
def shakeMoreUptoCard : Claim7 := { stood := { row := shakeMoreUptoRow, standIns := [], harness := (true, "d6c486e64cfb8fa0fd45f341bb51345bfae8fabe37e0bd4fce24459a28abea30"), looks := false }, kinds := [], alts := [], laidByText := true, laidKinds := [.data, .data, .data, .data, .data, .data, .data, .data, .pinned], laidTests := true, laidLooks := .later }
def ShakeMoreUptoCardSaid : Prop := Claim7.holds Tryz.pinned (.plain (OpenSpec.upto shakeMoreSpec)) shakeMoreUptoCard

/-- THE SECOND FORM's CARD OF 'pendentivelaw07.ShakeStatus'. -/
def shakeStatusUptoCard : Claim7 := { stood := { row := shakeStatusUptoRow, standIns := [], harness := (true, "d6c486e64cfb8fa0fd45f341bb51345bfae8fabe37e0bd4fce24459a28abea30"), looks := false }, kinds := [], alts := [], laidByText := true, laidKinds := [.data, .data, .data, .data, .data, .data, .data, .data, .pinned], laidTests := true, laidLooks := .later }
def ShakeStatusUptoCardSaid : Prop := Claim7.holds Tryz.pinned (.plain (OpenSpec.upto shakeStatusSpec)) shakeStatusUptoCard

/-- THE SECOND FORM's CARD OF 'pendentivelaw07.ShakeAllows'. -/
def shakeAllowsUptoCard : Claim7 := { stood := { row := shakeAllowsUptoRow, standIns := [], harness := (true, "d6c486e64cfb8fa0fd45f341bb51345bfae8fabe37e0bd4fce24459a28abea30"), looks := false }, kinds := [], alts := [], laidByText := true, laidKinds := [.data, .data, .data, .data, .data, .data, .data, .data, .pinned], laidTests := true, laidLooks := .later }
def ShakeAllowsUptoCardSaid : Prop := Claim7.holds Tryz.pinned (.plain (OpenSpec.upto shakeAllowsSpec)) shakeAllowsUptoCard
end Rows
end Go.Proofs.YthlagngpllahkaaGreatDoor
