/-
  NARROWER THAN 'FOR EVERY INPUT', by the rows' own cells (each row's printed sentence says how): NamesList: laid · NamesJoin: laid · NamesFirst: laid · NamesCase: laid · NamesSome: laid · NamesBlank: laid.
  DERIVED. THE GIVEN ROWS OF THIS SEAT. 6 by the template 'for every input the law returns true; each argument reads behind the call as it read before'; 0 by the template 'total and deterministic' (their statements: YtcdpkabbmdannaaDoorTotals.lean).
  GIVEN WITH THE SEED: the statements are not yours to turn. If you find one false, say at which input.
  Laid BY PROGRAM, IN A SANDBOX (cutbox-rows.mjs): the forced cells as the released guide's own fill.sh prints them over the translation 18a4342b6d7a924a… (all of the seat's roots in one cut). By AI agents, Wed Nov 11 2026. No macro, syntax, notation, axiom, sorry.
-/
import Derived.Test.YtcdpkabbmdannaaDoorChecked
import GoSem.PinnedTables
import GoSem.Claim
import GoSem.ClaimJoined
import GoSem.ClaimMapViews
import Derived.JoinedTies
import Derived.KernelRfl
namespace Go.Proofs.YtcdpkabbmdannaaDoor
/- THE CELL 'sum', in the pinned program and in every row, IS THE sha256 OF THE DUMP (.gsa) THAT YtcdpkabbmdannaaDoorProg.lean LOADS. Nothing in Lean hashes anything: it is a label: what it is worth is what the hold of that sum in a sandbox is worth. -/
noncomputable def Tryd.pinned : Pinned := { name := "ytcdpkabbmdannaadoor", sum := "18a4342b6d7a924ada2102c1b63be737014d5102c53bba0da5cb10c7a47d6069", checked := Tryd.checked }
namespace Rows
def none {H : Type} : Left H := { results := [], args := [] }

/- WHAT THE LISTED PACKAGE-LEVEL VARIABLES READ AS WHEN THE CALL BEGINS. Each datum BY PROGRAM (the guide's laid-datum.mjs) off the statement by which the dump's own 'gosem.cut.vars' lays the variable. In a bare row this is a premise. The card (YtcdpkabbmdannaaDoorCards.lean) ties it to the program's text. -/
def laid_unicode_utf8_acceptRanges {H : Type} : DataW H := .agg [.agg [.lit (.int .u8 128), .lit (.int .u8 191)], .agg [.lit (.int .u8 160), .lit (.int .u8 191)], .agg [.lit (.int .u8 128), .lit (.int .u8 159)], .agg [.lit (.int .u8 144), .lit (.int .u8 191)], .agg [.lit (.int .u8 128), .lit (.int .u8 143)], .agg [.lit (.int .u8 0), .lit (.int .u8 0)], .agg [.lit (.int .u8 0), .lit (.int .u8 0)], .agg [.lit (.int .u8 0), .lit (.int .u8 0)], .agg [.lit (.int .u8 0), .lit (.int .u8 0)], .agg [.lit (.int .u8 0), .lit (.int .u8 0)], .agg [.lit (.int .u8 0), .lit (.int .u8 0)], .agg [.lit (.int .u8 0), .lit (.int .u8 0)], .agg [.lit (.int .u8 0), .lit (.int .u8 0)], .agg [.lit (.int .u8 0), .lit (.int .u8 0)], .agg [.lit (.int .u8 0), .lit (.int .u8 0)], .agg [.lit (.int .u8 0), .lit (.int .u8 0)]]
def laid_pendentive_head_tokenSpans {H : Type} : DataW H := .agg [.agg [.lit (.int .u8 97), .lit (.int .u8 122)], .agg [.lit (.int .u8 65), .lit (.int .u8 90)], .agg [.lit (.int .u8 48), .lit (.int .u8 57)]]
/-- One of Go's own tables, pinned by name: the form's constant. -/
def laid_unicode_utf8_first : DataW Unit := Go.Pinned.utf8First

/-- 'pendentivelaw06.NamesList': WHATEVER THE INPUT: true; the input reads as it did. -/
def namesListSpec : ChangeSpec := { name := "namesList", fn := fun _ => fun
  | [d1, d2] => { results := [.lit (.bool true)], args := [d1, d2] }
  | _ => none }
def namesListRow : OpenClaim := { program := "ytcdpkabbmdannaadoor", sum := "18a4342b6d7a924ada2102c1b63be737014d5102c53bba0da5cb10c7a47d6069", func := "pendentive/pendentivelaw06.NamesList", spec := "namesList", inPlace := ["internal/bytealg.IndexByteString", "internal/bytealg.IndexString"], unfollowed := true, recurses := true, named := ["unicode/utf8.first", "unicode/utf8.acceptRanges", "internal/bytealg.MaxLen", "pendentive/head.tokenSpans"], apart := false, laid := [("unicode/utf8.acceptRanges", laid_unicode_utf8_acceptRanges), ("pendentive/head.tokenSpans", laid_pendentive_head_tokenSpans), ("unicode/utf8.first", laid_unicode_utf8_first)] }
def NamesListSaid : Prop := namesListRow.holds Tryd.pinned (OpenSpec.ofChange namesListSpec)

/-- ITS FALSE NEIGHBOUR: 'it returns false'. Refute it at one input. -/
def namesListWrong : ChangeSpec := { name := "namesList", fn := fun _ => fun
  | [d1, d2] => { results := [.lit (.bool false)], args := [d1, d2] }
  | _ => none }
def NamesListWrongFalsely : Prop := namesListRow.holds Tryd.pinned (OpenSpec.ofChange namesListWrong)

/-- 'pendentivelaw06.NamesJoin': WHATEVER THE INPUT: true; the input reads as it did. -/
def namesJoinSpec : ChangeSpec := { name := "namesJoin", fn := fun _ => fun
  | [d1, d2] => { results := [.lit (.bool true)], args := [d1, d2] }
  | _ => none }
def namesJoinRow : OpenClaim := { program := "ytcdpkabbmdannaadoor", sum := "18a4342b6d7a924ada2102c1b63be737014d5102c53bba0da5cb10c7a47d6069", func := "pendentive/pendentivelaw06.NamesJoin", spec := "namesJoin", inPlace := ["internal/bytealg.IndexByteString", "internal/bytealg.IndexString"], unfollowed := true, recurses := true, named := ["unicode/utf8.first", "unicode/utf8.acceptRanges", "internal/bytealg.MaxLen", "pendentive/head.tokenSpans"], apart := false, laid := [("unicode/utf8.acceptRanges", laid_unicode_utf8_acceptRanges), ("pendentive/head.tokenSpans", laid_pendentive_head_tokenSpans), ("unicode/utf8.first", laid_unicode_utf8_first)] }
def NamesJoinSaid : Prop := namesJoinRow.holds Tryd.pinned (OpenSpec.ofChange namesJoinSpec)

/-- ITS FALSE NEIGHBOUR: 'it returns false'. Refute it at one input. -/
def namesJoinWrong : ChangeSpec := { name := "namesJoin", fn := fun _ => fun
  | [d1, d2] => { results := [.lit (.bool false)], args := [d1, d2] }
  | _ => none }
def NamesJoinWrongFalsely : Prop := namesJoinRow.holds Tryd.pinned (OpenSpec.ofChange namesJoinWrong)

/-- 'pendentivelaw06.NamesFirst': WHATEVER THE INPUT: true; the input reads as it did. -/
def namesFirstSpec : ChangeSpec := { name := "namesFirst", fn := fun _ => fun
  | [d1, d2] => { results := [.lit (.bool true)], args := [d1, d2] }
  | _ => none }
def namesFirstRow : OpenClaim := { program := "ytcdpkabbmdannaadoor", sum := "18a4342b6d7a924ada2102c1b63be737014d5102c53bba0da5cb10c7a47d6069", func := "pendentive/pendentivelaw06.NamesFirst", spec := "namesFirst", inPlace := ["internal/bytealg.IndexByteString", "internal/bytealg.IndexString"], unfollowed := true, recurses := true, named := ["unicode/utf8.first", "unicode/utf8.acceptRanges", "internal/bytealg.MaxLen", "pendentive/head.tokenSpans"], apart := false, laid := [("unicode/utf8.acceptRanges", laid_unicode_utf8_acceptRanges), ("pendentive/head.tokenSpans", laid_pendentive_head_tokenSpans), ("unicode/utf8.first", laid_unicode_utf8_first)] }
def NamesFirstSaid : Prop := namesFirstRow.holds Tryd.pinned (OpenSpec.ofChange namesFirstSpec)

/-- ITS FALSE NEIGHBOUR: 'it returns false'. Refute it at one input. -/
def namesFirstWrong : ChangeSpec := { name := "namesFirst", fn := fun _ => fun
  | [d1, d2] => { results := [.lit (.bool false)], args := [d1, d2] }
  | _ => none }
def NamesFirstWrongFalsely : Prop := namesFirstRow.holds Tryd.pinned (OpenSpec.ofChange namesFirstWrong)

/-- 'pendentivelaw06.NamesCase': WHATEVER THE INPUT: true; the input reads as it did. -/
def namesCaseSpec : ChangeSpec := { name := "namesCase", fn := fun _ => fun
  | [d1, d2] => { results := [.lit (.bool true)], args := [d1, d2] }
  | _ => none }
def namesCaseRow : OpenClaim := { program := "ytcdpkabbmdannaadoor", sum := "18a4342b6d7a924ada2102c1b63be737014d5102c53bba0da5cb10c7a47d6069", func := "pendentive/pendentivelaw06.NamesCase", spec := "namesCase", inPlace := ["internal/bytealg.IndexByteString", "internal/bytealg.IndexString"], unfollowed := true, recurses := true, named := ["unicode/utf8.first", "unicode/utf8.acceptRanges", "internal/bytealg.MaxLen", "pendentive/head.tokenSpans"], apart := false, laid := [("unicode/utf8.acceptRanges", laid_unicode_utf8_acceptRanges), ("pendentive/head.tokenSpans", laid_pendentive_head_tokenSpans), ("unicode/utf8.first", laid_unicode_utf8_first)] }
def NamesCaseSaid : Prop := namesCaseRow.holds Tryd.pinned (OpenSpec.ofChange namesCaseSpec)

/-- ITS FALSE NEIGHBOUR: 'it returns false'. Refute it at one input. -/
def namesCaseWrong : ChangeSpec := { name := "namesCase", fn := fun _ => fun
  | [d1, d2] => { results := [.lit (.bool false)], args := [d1, d2] }
  | _ => none }
def NamesCaseWrongFalsely : Prop := namesCaseRow.holds Tryd.pinned (OpenSpec.ofChange namesCaseWrong)

/-- 'pendentivelaw06.NamesSome': WHATEVER THE INPUT: true; the input reads as it did. -/
def namesSomeSpec : ChangeSpec := { name := "namesSome", fn := fun _ => fun
  | [d1, d2] => { results := [.lit (.bool true)], args := [d1, d2] }
  | _ => none }
def namesSomeRow : OpenClaim := { program := "ytcdpkabbmdannaadoor", sum := "18a4342b6d7a924ada2102c1b63be737014d5102c53bba0da5cb10c7a47d6069", func := "pendentive/pendentivelaw06.NamesSome", spec := "namesSome", inPlace := ["internal/bytealg.IndexByteString", "internal/bytealg.IndexString"], unfollowed := true, recurses := true, named := ["unicode/utf8.first", "unicode/utf8.acceptRanges", "internal/bytealg.MaxLen", "pendentive/head.tokenSpans"], apart := false, laid := [("unicode/utf8.acceptRanges", laid_unicode_utf8_acceptRanges), ("pendentive/head.tokenSpans", laid_pendentive_head_tokenSpans), ("unicode/utf8.first", laid_unicode_utf8_first)] }
def NamesSomeSaid : Prop := namesSomeRow.holds Tryd.pinned (OpenSpec.ofChange namesSomeSpec)

/-- ITS FALSE NEIGHBOUR: 'it returns false'. Refute it at one input. -/
def namesSomeWrong : ChangeSpec := { name := "namesSome", fn := fun _ => fun
  | [d1, d2] => { results := [.lit (.bool false)], args := [d1, d2] }
  | _ => none }
def NamesSomeWrongFalsely : Prop := namesSomeRow.holds Tryd.pinned (OpenSpec.ofChange namesSomeWrong)

/-- 'pendentivelaw06.NamesBlank': WHATEVER THE INPUT: true; the input reads as it did. -/
def namesBlankSpec : ChangeSpec := { name := "namesBlank", fn := fun _ => fun
  | [d1, d2] => { results := [.lit (.bool true)], args := [d1, d2] }
  | _ => none }
def namesBlankRow : OpenClaim := { program := "ytcdpkabbmdannaadoor", sum := "18a4342b6d7a924ada2102c1b63be737014d5102c53bba0da5cb10c7a47d6069", func := "pendentive/pendentivelaw06.NamesBlank", spec := "namesBlank", inPlace := ["internal/bytealg.IndexByteString", "internal/bytealg.IndexString"], unfollowed := true, recurses := true, named := ["unicode/utf8.first", "unicode/utf8.acceptRanges", "internal/bytealg.MaxLen", "pendentive/head.tokenSpans"], apart := false, laid := [("unicode/utf8.acceptRanges", laid_unicode_utf8_acceptRanges), ("pendentive/head.tokenSpans", laid_pendentive_head_tokenSpans), ("unicode/utf8.first", laid_unicode_utf8_first)] }
def NamesBlankSaid : Prop := namesBlankRow.holds Tryd.pinned (OpenSpec.ofChange namesBlankSpec)

/-- ITS FALSE NEIGHBOUR: 'it returns false'. Refute it at one input. -/
def namesBlankWrong : ChangeSpec := { name := "namesBlank", fn := fun _ => fun
  | [d1, d2] => { results := [.lit (.bool false)], args := [d1, d2] }
  | _ => none }
def NamesBlankWrongFalsely : Prop := namesBlankRow.holds Tryd.pinned (OpenSpec.ofChange namesBlankWrong)

/- THE SECOND FORM. 'bulk': how many values and letters a reading holds, each counted each time it is reached (what is shared counts as often as it is met; a slice's spare places count too). A statement '..UptoSaid' is the law's where the arguments, and the package variables that the reading takes, are together of bulk at most 1048576: NARROWER than '..Said'. Prove '..Said' where nothing that the law and all that it calls make is longer than what came in: it says more and counts as full. Else prove '..UptoSaid'. A law counts once. -/
mutual
def uptoBulk {H : Type} : DataW H → Nat
  | .lit (.string bytes) => bytes.length + 1
  | .lit _ => 1
  | .nil => 1
  | .ptr d => uptoBulk d + 1
  | .slice elems spare => uptoBulkAll elems + uptoBulkAll spare + 1
  | .agg parts => uptoBulkAll parts + 1
  | .iface _ d => uptoBulk d + 1
  | .map entries => uptoBulkEntries entries + 1
  | .held _ => 1
def uptoBulkAll {H : Type} : List (DataW H) → Nat
  | [] => 0
  | d :: r => uptoBulk d + uptoBulkAll r
def uptoBulkEntries {H : Type} : List (Lit × DataW H) → Nat
  | [] => 0
  | x :: r => uptoBulkEntry x + uptoBulkEntries r
def uptoBulkEntry {H : Type} : Lit × DataW H → Nat
  | (.string bytes, d) => bytes.length + uptoBulk d + 1
  | (_, d) => uptoBulk d + 1
 end
def uptoSmall : (H : Type) → List (DataW H) → Bool := fun _ ds => decide (uptoBulkAll ds ≤ 1048576)
def OpenSpec.upto (s : _root_.Go.ChangeSpec) : _root_.Go.OpenSpec := { _root_.Go.OpenSpec.ofChange s with cond := some uptoSmall }

/-- 'pendentivelaw06.NamesList', WHERE WHAT IT READS IS OF BULK AT MOST 1048576: true; the input reads as it did. -/
def namesListUptoRow : OpenClaim := { program := "ytcdpkabbmdannaadoor", sum := "18a4342b6d7a924ada2102c1b63be737014d5102c53bba0da5cb10c7a47d6069", func := "pendentive/pendentivelaw06.NamesList", spec := "namesList", inPlace := ["internal/bytealg.IndexByteString", "internal/bytealg.IndexString"], unfollowed := true, recurses := true, named := ["unicode/utf8.first", "unicode/utf8.acceptRanges", "internal/bytealg.MaxLen", "pendentive/head.tokenSpans"], apart := false, laid := [("unicode/utf8.acceptRanges", laid_unicode_utf8_acceptRanges), ("pendentive/head.tokenSpans", laid_pendentive_head_tokenSpans), ("unicode/utf8.first", laid_unicode_utf8_first)], narrowed := true }
def NamesListUptoSaid : Prop := namesListUptoRow.holds Tryd.pinned (OpenSpec.upto namesListSpec)

/-- 'pendentivelaw06.NamesJoin', WHERE WHAT IT READS IS OF BULK AT MOST 1048576: true; the input reads as it did. -/
def namesJoinUptoRow : OpenClaim := { program := "ytcdpkabbmdannaadoor", sum := "18a4342b6d7a924ada2102c1b63be737014d5102c53bba0da5cb10c7a47d6069", func := "pendentive/pendentivelaw06.NamesJoin", spec := "namesJoin", inPlace := ["internal/bytealg.IndexByteString", "internal/bytealg.IndexString"], unfollowed := true, recurses := true, named := ["unicode/utf8.first", "unicode/utf8.acceptRanges", "internal/bytealg.MaxLen", "pendentive/head.tokenSpans"], apart := false, laid := [("unicode/utf8.acceptRanges", laid_unicode_utf8_acceptRanges), ("pendentive/head.tokenSpans", laid_pendentive_head_tokenSpans), ("unicode/utf8.first", laid_unicode_utf8_first)], narrowed := true }
def NamesJoinUptoSaid : Prop := namesJoinUptoRow.holds Tryd.pinned (OpenSpec.upto namesJoinSpec)

/-- 'pendentivelaw06.NamesFirst', WHERE WHAT IT READS IS OF BULK AT MOST 1048576: true; the input reads as it did. -/
def namesFirstUptoRow : OpenClaim := { program := "ytcdpkabbmdannaadoor", sum := "18a4342b6d7a924ada2102c1b63be737014d5102c53bba0da5cb10c7a47d6069", func := "pendentive/pendentivelaw06.NamesFirst", spec := "namesFirst", inPlace := ["internal/bytealg.IndexByteString", "internal/bytealg.IndexString"], unfollowed := true, recurses := true, named := ["unicode/utf8.first", "unicode/utf8.acceptRanges", "internal/bytealg.MaxLen", "pendentive/head.tokenSpans"], apart := false, laid := [("unicode/utf8.acceptRanges", laid_unicode_utf8_acceptRanges), ("pendentive/head.tokenSpans", laid_pendentive_head_tokenSpans), ("unicode/utf8.first", laid_unicode_utf8_first)], narrowed := true }
def NamesFirstUptoSaid : Prop := namesFirstUptoRow.holds Tryd.pinned (OpenSpec.upto namesFirstSpec)

/-- 'pendentivelaw06.NamesCase', WHERE WHAT IT READS IS OF BULK AT MOST 1048576: true; the input reads as it did. -/
def namesCaseUptoRow : OpenClaim := { program := "ytcdpkabbmdannaadoor", sum := "18a4342b6d7a924ada2102c1b63be737014d5102c53bba0da5cb10c7a47d6069", func := "pendentive/pendentivelaw06.NamesCase", spec := "namesCase", inPlace := ["internal/bytealg.IndexByteString", "internal/bytealg.IndexString"], unfollowed := true, recurses := true, named := ["unicode/utf8.first", "unicode/utf8.acceptRanges", "internal/bytealg.MaxLen", "pendentive/head.tokenSpans"], apart := false, laid := [("unicode/utf8.acceptRanges", laid_unicode_utf8_acceptRanges), ("pendentive/head.tokenSpans", laid_pendentive_head_tokenSpans), ("unicode/utf8.first", laid_unicode_utf8_first)], narrowed := true }
def NamesCaseUptoSaid : Prop := namesCaseUptoRow.holds Tryd.pinned (OpenSpec.upto namesCaseSpec)

/-- 'pendentivelaw06.NamesSome', WHERE WHAT IT READS IS OF BULK AT MOST 1048576: true; the input reads as it did. -/
def namesSomeUptoRow : OpenClaim := { program := "ytcdpkabbmdannaadoor", sum := "18a4342b6d7a924ada2102c1b63be737014d5102c53bba0da5cb10c7a47d6069", func := "pendentive/pendentivelaw06.NamesSome", spec := "namesSome", inPlace := ["internal/bytealg.IndexByteString", "internal/bytealg.IndexString"], unfollowed := true, recurses := true, named := ["unicode/utf8.first", "unicode/utf8.acceptRanges", "internal/bytealg.MaxLen", "pendentive/head.tokenSpans"], apart := false, laid := [("unicode/utf8.acceptRanges", laid_unicode_utf8_acceptRanges), ("pendentive/head.tokenSpans", laid_pendentive_head_tokenSpans), ("unicode/utf8.first", laid_unicode_utf8_first)], narrowed := true }
def NamesSomeUptoSaid : Prop := namesSomeUptoRow.holds Tryd.pinned (OpenSpec.upto namesSomeSpec)

/-- 'pendentivelaw06.NamesBlank', WHERE WHAT IT READS IS OF BULK AT MOST 1048576: true; the input reads as it did. -/
def namesBlankUptoRow : OpenClaim := { program := "ytcdpkabbmdannaadoor", sum := "18a4342b6d7a924ada2102c1b63be737014d5102c53bba0da5cb10c7a47d6069", func := "pendentive/pendentivelaw06.NamesBlank", spec := "namesBlank", inPlace := ["internal/bytealg.IndexByteString", "internal/bytealg.IndexString"], unfollowed := true, recurses := true, named := ["unicode/utf8.first", "unicode/utf8.acceptRanges", "internal/bytealg.MaxLen", "pendentive/head.tokenSpans"], apart := false, laid := [("unicode/utf8.acceptRanges", laid_unicode_utf8_acceptRanges), ("pendentive/head.tokenSpans", laid_pendentive_head_tokenSpans), ("unicode/utf8.first", laid_unicode_utf8_first)], narrowed := true }
def NamesBlankUptoSaid : Prop := namesBlankUptoRow.holds Tryd.pinned (OpenSpec.upto namesBlankSpec)

end Rows
end Go.Proofs.YtcdpkabbmdannaaDoor
