/-
  DERIVED. GIVEN WITH THE SEED: THE CARDS: each row of YtcdpkabbmdannaaDoorRows.lean that lists a variable, with what it lists TIED to the program's text (the seventh form; the later family's looks); each row that meets fmt, with fmt's text TOLD by the authors' own Lean function (tested against real Go, not proved from fmt's source: count such statements apart). THE CARD IS WHAT COUNTS. Prove the row's statement (the work); the ties are given (YtcdpkabbmdannaaDoorTie.lean); close each card by the builder's one call (the guide's Derived/Test/ToyasCard.lean, 'card_holds'). Laid BY PROGRAM, IN A SANDBOX (cutbox-door.mjs). By AI agents, Wed Nov 11 2026. No macro, syntax, notation, axiom, sorry.
-/
import Derived.Test.YtcdpkabbmdannaaDoorRows
import GoSem.ClaimSeven
namespace Go.Proofs.YtcdpkabbmdannaaDoor
namespace Rows

/-- THE TIED CARD OF 'pendentivelaw06.NamesList'. -/
def namesListCard : Claim7 := { stood := { row := namesListRow, standIns := [], harness := (true, "7b424d7d999c8b5ba4f9b27d596b30690b86a552b5f0a09e4b3ba47a7d5d0b3a"), looks := false }, kinds := [], alts := [], laidByText := true, laidKinds := [.data, .data, .pinned], laidTests := true, laidLooks := .later }
def NamesListCardSaid : Prop := Claim7.holds Tryd.pinned (.plain (OpenSpec.ofChange namesListSpec)) namesListCard

/-- THE TIED CARD OF 'pendentivelaw06.NamesJoin'. -/
def namesJoinCard : Claim7 := { stood := { row := namesJoinRow, standIns := [], harness := (true, "7b424d7d999c8b5ba4f9b27d596b30690b86a552b5f0a09e4b3ba47a7d5d0b3a"), looks := false }, kinds := [], alts := [], laidByText := true, laidKinds := [.data, .data, .pinned], laidTests := true, laidLooks := .later }
def NamesJoinCardSaid : Prop := Claim7.holds Tryd.pinned (.plain (OpenSpec.ofChange namesJoinSpec)) namesJoinCard

/-- THE TIED CARD OF 'pendentivelaw06.NamesFirst'. -/
def namesFirstCard : Claim7 := { stood := { row := namesFirstRow, standIns := [], harness := (true, "7b424d7d999c8b5ba4f9b27d596b30690b86a552b5f0a09e4b3ba47a7d5d0b3a"), looks := false }, kinds := [], alts := [], laidByText := true, laidKinds := [.data, .data, .pinned], laidTests := true, laidLooks := .later }
def NamesFirstCardSaid : Prop := Claim7.holds Tryd.pinned (.plain (OpenSpec.ofChange namesFirstSpec)) namesFirstCard

/-- THE TIED CARD OF 'pendentivelaw06.NamesCase'. -/
def namesCaseCard : Claim7 := { stood := { row := namesCaseRow, standIns := [], harness := (true, "7b424d7d999c8b5ba4f9b27d596b30690b86a552b5f0a09e4b3ba47a7d5d0b3a"), looks := false }, kinds := [], alts := [], laidByText := true, laidKinds := [.data, .data, .pinned], laidTests := true, laidLooks := .later }
def NamesCaseCardSaid : Prop := Claim7.holds Tryd.pinned (.plain (OpenSpec.ofChange namesCaseSpec)) namesCaseCard

/-- THE TIED CARD OF 'pendentivelaw06.NamesSome'. -/
def namesSomeCard : Claim7 := { stood := { row := namesSomeRow, standIns := [], harness := (true, "7b424d7d999c8b5ba4f9b27d596b30690b86a552b5f0a09e4b3ba47a7d5d0b3a"), looks := false }, kinds := [], alts := [], laidByText := true, laidKinds := [.data, .data, .pinned], laidTests := true, laidLooks := .later }
def NamesSomeCardSaid : Prop := Claim7.holds Tryd.pinned (.plain (OpenSpec.ofChange namesSomeSpec)) namesSomeCard

/-- THE TIED CARD OF 'pendentivelaw06.NamesBlank'. -/
def namesBlankCard : Claim7 := { stood := { row := namesBlankRow, standIns := [], harness := (true, "7b424d7d999c8b5ba4f9b27d596b30690b86a552b5f0a09e4b3ba47a7d5d0b3a"), looks := false }, kinds := [], alts := [], laidByText := true, laidKinds := [.data, .data, .pinned], laidTests := true, laidLooks := .later }
def NamesBlankCardSaid : Prop := Claim7.holds Tryd.pinned (.plain (OpenSpec.ofChange namesBlankSpec)) namesBlankCard

/-- THE SECOND FORM's CARD OF 'pendentivelaw06.NamesList'. -/
def namesListUptoCard : Claim7 := { stood := { row := namesListUptoRow, standIns := [], harness := (true, "7b424d7d999c8b5ba4f9b27d596b30690b86a552b5f0a09e4b3ba47a7d5d0b3a"), looks := false }, kinds := [], alts := [], laidByText := true, laidKinds := [.data, .data, .pinned], laidTests := true, laidLooks := .later }
def NamesListUptoCardSaid : Prop := Claim7.holds Tryd.pinned (.plain (OpenSpec.upto namesListSpec)) namesListUptoCard

/-- THE SECOND FORM's CARD OF 'pendentivelaw06.NamesJoin'. -/
def namesJoinUptoCard : Claim7 := { stood := { row := namesJoinUptoRow, standIns := [], harness := (true, "7b424d7d999c8b5ba4f9b27d596b30690b86a552b5f0a09e4b3ba47a7d5d0b3a"), looks := false }, kinds := [], alts := [], laidByText := true, laidKinds := [.data, .data, .pinned], laidTests := true, laidLooks := .later }
def NamesJoinUptoCardSaid : Prop := Claim7.holds Tryd.pinned (.plain (OpenSpec.upto namesJoinSpec)) namesJoinUptoCard

/-- THE SECOND FORM's CARD OF 'pendentivelaw06.NamesFirst'. -/
def namesFirstUptoCard : Claim7 := { stood := { row := namesFirstUptoRow, standIns := [], harness := (true, "7b424d7d999c8b5ba4f9b27d596b30690b86a552b5f0a09e4b3ba47a7d5d0b3a"), looks := false }, kinds := [], alts := [], laidByText := true, laidKinds := [.data, .data, .pinned], laidTests := true, laidLooks := .later }
def NamesFirstUptoCardSaid : Prop := Claim7.holds Tryd.pinned (.plain (OpenSpec.upto namesFirstSpec)) namesFirstUptoCard

/-- THE SECOND FORM's CARD OF 'pendentivelaw06.NamesCase'. -/
def namesCaseUptoCard : Claim7 := { stood := { row := namesCaseUptoRow, standIns := [], harness := (true, "7b424d7d999c8b5ba4f9b27d596b30690b86a552b5f0a09e4b3ba47a7d5d0b3a"), looks := false }, kinds := [], alts := [], laidByText := true, laidKinds := [.data, .data, .pinned], laidTests := true, laidLooks := .later }
def NamesCaseUptoCardSaid : Prop := Claim7.holds Tryd.pinned (.plain (OpenSpec.upto namesCaseSpec)) namesCaseUptoCard

/-- THE SECOND FORM's CARD OF 'pendentivelaw06.NamesSome'. -/
def namesSomeUptoCard : Claim7 := { stood := { row := namesSomeUptoRow, standIns := [], harness := (true, "7b424d7d999c8b5ba4f9b27d596b30690b86a552b5f0a09e4b3ba47a7d5d0b3a"), looks := false }, kinds := [], alts := [], laidByText := true, laidKinds := [.data, .data, .pinned], laidTests := true, laidLooks := .later }
def NamesSomeUptoCardSaid : Prop := Claim7.holds Tryd.pinned (.plain (OpenSpec.upto namesSomeSpec)) namesSomeUptoCard

/-- THE SECOND FORM's CARD OF 'pendentivelaw06.NamesBlank'. -/
def namesBlankUptoCard : Claim7 := { stood := { row := namesBlankUptoRow, standIns := [], harness := (true, "7b424d7d999c8b5ba4f9b27d596b30690b86a552b5f0a09e4b3ba47a7d5d0b3a"), looks := false }, kinds := [], alts := [], laidByText := true, laidKinds := [.data, .data, .pinned], laidTests := true, laidLooks := .later }
def NamesBlankUptoCardSaid : Prop := Claim7.holds Tryd.pinned (.plain (OpenSpec.upto namesBlankSpec)) namesBlankUptoCard
end Rows
end Go.Proofs.YtcdpkabbmdannaaDoor
