/-
  NARROWER THAN 'FOR EVERY INPUT', by the rows' own cells (each row's printed sentence says how): UtfReads: laid · UtfLetter: laid · UtfCuts: laid · UtfJoins: laid · UtfBegins: laid · UtfCounts: laid · UtfAscii: laid.
  DERIVED. THE GIVEN ROWS OF THIS SEAT. 7 by the template 'for every input the law returns true; each argument reads behind the call as it read before'; 0 by the template 'total and deterministic' (their statements: YtlkfkglcefhbgaaDoorTotals.lean).
  GIVEN WITH THE SEED: the statements are not yours to turn. If you find one false, say at which input.
  Laid BY PROGRAM, IN A SANDBOX (cutbox-rows.mjs): the forced cells as the released guide's own fill.sh prints them over the translation 21c77b9b0ae80015… (all of the seat's roots in one cut). By AI agents, Wed Nov 11 2026. No macro, syntax, notation, axiom, sorry.
-/
import Derived.Test.YtlkfkglcefhbgaaDoorChecked
import GoSem.Claim
import GoSem.ClaimJoined
import GoSem.ClaimMapViews
import Derived.JoinedTies
import Derived.KernelRfl
namespace Go.Proofs.YtlkfkglcefhbgaaDoor
/- THE CELL 'sum', in the pinned program and in every row, IS THE sha256 OF THE DUMP (.gsa) THAT YtlkfkglcefhbgaaDoorProg.lean LOADS. Nothing in Lean hashes anything: it is a label: what it is worth is what the hold of that sum in a sandbox is worth. -/
noncomputable def Tryd.pinned : Pinned := { name := "ytlkfkglcefhbgaadoor", sum := "21c77b9b0ae800152703ee1aa81f5b95b2bc975c585682c88358cd42322bfb30", checked := Tryd.checked }
namespace Rows
def none {H : Type} : Left H := { results := [], args := [] }

/- WHAT THE LISTED PACKAGE-LEVEL VARIABLES READ AS WHEN THE CALL BEGINS. Each datum BY PROGRAM (the guide's laid-datum.mjs) off the statement by which the dump's own 'gosem.cut.vars' lays the variable. In a bare row this is a premise. The card (YtlkfkglcefhbgaaDoorCards.lean) ties it to the program's text. -/
def laid_pendentive_utf_starts {H : Type} : DataW H := .agg [.agg [.agg [.lit (.int .u8 0), .lit (.int .u8 127)], .lit (.int .i64 0), .agg [.lit (.int .u8 0), .lit (.int .u8 0)]], .agg [.agg [.lit (.int .u8 194), .lit (.int .u8 223)], .lit (.int .i64 1), .agg [.lit (.int .u8 128), .lit (.int .u8 191)]], .agg [.agg [.lit (.int .u8 224), .lit (.int .u8 224)], .lit (.int .i64 2), .agg [.lit (.int .u8 160), .lit (.int .u8 191)]], .agg [.agg [.lit (.int .u8 225), .lit (.int .u8 236)], .lit (.int .i64 2), .agg [.lit (.int .u8 128), .lit (.int .u8 191)]], .agg [.agg [.lit (.int .u8 237), .lit (.int .u8 237)], .lit (.int .i64 2), .agg [.lit (.int .u8 128), .lit (.int .u8 159)]], .agg [.agg [.lit (.int .u8 238), .lit (.int .u8 239)], .lit (.int .i64 2), .agg [.lit (.int .u8 128), .lit (.int .u8 191)]], .agg [.agg [.lit (.int .u8 240), .lit (.int .u8 240)], .lit (.int .i64 3), .agg [.lit (.int .u8 144), .lit (.int .u8 191)]], .agg [.agg [.lit (.int .u8 241), .lit (.int .u8 243)], .lit (.int .i64 3), .agg [.lit (.int .u8 128), .lit (.int .u8 191)]], .agg [.agg [.lit (.int .u8 244), .lit (.int .u8 244)], .lit (.int .i64 3), .agg [.lit (.int .u8 128), .lit (.int .u8 143)]]]

/-- 'pendentivelaw03.UtfReads': WHATEVER THE INPUT: true; the input reads as it did. -/
def utfReadsSpec : ChangeSpec := { name := "utfReads", fn := fun _ => fun
  | [d] => { results := [.lit (.bool true)], args := [d] }
  | _ => none }
def utfReadsRow : OpenClaim := { program := "ytlkfkglcefhbgaadoor", sum := "21c77b9b0ae800152703ee1aa81f5b95b2bc975c585682c88358cd42322bfb30", func := "pendentive/pendentivelaw03.UtfReads", spec := "utfReads", named := ["pendentive/utf.starts"], apart := false, laid := [("pendentive/utf.starts", laid_pendentive_utf_starts)] }
def UtfReadsSaid : Prop := utfReadsRow.holds Tryd.pinned (OpenSpec.ofChange utfReadsSpec)

/-- ITS FALSE NEIGHBOUR: 'it returns false'. Refute it at one input. -/
def utfReadsWrong : ChangeSpec := { name := "utfReads", fn := fun _ => fun
  | [d] => { results := [.lit (.bool false)], args := [d] }
  | _ => none }
def UtfReadsWrongFalsely : Prop := utfReadsRow.holds Tryd.pinned (OpenSpec.ofChange utfReadsWrong)

/-- 'pendentivelaw03.UtfLetter': WHATEVER THE INPUT: true; the input reads as it did. -/
def utfLetterSpec : ChangeSpec := { name := "utfLetter", fn := fun _ => fun
  | [d1, d2] => { results := [.lit (.bool true)], args := [d1, d2] }
  | _ => none }
def utfLetterRow : OpenClaim := { program := "ytlkfkglcefhbgaadoor", sum := "21c77b9b0ae800152703ee1aa81f5b95b2bc975c585682c88358cd42322bfb30", func := "pendentive/pendentivelaw03.UtfLetter", spec := "utfLetter", named := ["pendentive/utf.starts"], apart := false, laid := [("pendentive/utf.starts", laid_pendentive_utf_starts)] }
def UtfLetterSaid : Prop := utfLetterRow.holds Tryd.pinned (OpenSpec.ofChange utfLetterSpec)

/-- ITS FALSE NEIGHBOUR: 'it returns false'. Refute it at one input. -/
def utfLetterWrong : ChangeSpec := { name := "utfLetter", fn := fun _ => fun
  | [d1, d2] => { results := [.lit (.bool false)], args := [d1, d2] }
  | _ => none }
def UtfLetterWrongFalsely : Prop := utfLetterRow.holds Tryd.pinned (OpenSpec.ofChange utfLetterWrong)

/-- 'pendentivelaw03.UtfCuts': WHATEVER THE INPUT: true; the input reads as it did. -/
def utfCutsSpec : ChangeSpec := { name := "utfCuts", fn := fun _ => fun
  | [d] => { results := [.lit (.bool true)], args := [d] }
  | _ => none }
def utfCutsRow : OpenClaim := { program := "ytlkfkglcefhbgaadoor", sum := "21c77b9b0ae800152703ee1aa81f5b95b2bc975c585682c88358cd42322bfb30", func := "pendentive/pendentivelaw03.UtfCuts", spec := "utfCuts", named := ["pendentive/utf.starts"], apart := false, laid := [("pendentive/utf.starts", laid_pendentive_utf_starts)] }
def UtfCutsSaid : Prop := utfCutsRow.holds Tryd.pinned (OpenSpec.ofChange utfCutsSpec)

/-- ITS FALSE NEIGHBOUR: 'it returns false'. Refute it at one input. -/
def utfCutsWrong : ChangeSpec := { name := "utfCuts", fn := fun _ => fun
  | [d] => { results := [.lit (.bool false)], args := [d] }
  | _ => none }
def UtfCutsWrongFalsely : Prop := utfCutsRow.holds Tryd.pinned (OpenSpec.ofChange utfCutsWrong)

/-- 'pendentivelaw03.UtfJoins': WHATEVER THE INPUT: true; the input reads as it did. -/
def utfJoinsSpec : ChangeSpec := { name := "utfJoins", fn := fun _ => fun
  | [d1, d2] => { results := [.lit (.bool true)], args := [d1, d2] }
  | _ => none }
def utfJoinsRow : OpenClaim := { program := "ytlkfkglcefhbgaadoor", sum := "21c77b9b0ae800152703ee1aa81f5b95b2bc975c585682c88358cd42322bfb30", func := "pendentive/pendentivelaw03.UtfJoins", spec := "utfJoins", named := ["pendentive/utf.starts"], apart := false, laid := [("pendentive/utf.starts", laid_pendentive_utf_starts)] }
def UtfJoinsSaid : Prop := utfJoinsRow.holds Tryd.pinned (OpenSpec.ofChange utfJoinsSpec)

/-- ITS FALSE NEIGHBOUR: 'it returns false'. Refute it at one input. -/
def utfJoinsWrong : ChangeSpec := { name := "utfJoins", fn := fun _ => fun
  | [d1, d2] => { results := [.lit (.bool false)], args := [d1, d2] }
  | _ => none }
def UtfJoinsWrongFalsely : Prop := utfJoinsRow.holds Tryd.pinned (OpenSpec.ofChange utfJoinsWrong)

/-- 'pendentivelaw03.UtfBegins': WHATEVER THE INPUT: true; the input reads as it did. -/
def utfBeginsSpec : ChangeSpec := { name := "utfBegins", fn := fun _ => fun
  | [d] => { results := [.lit (.bool true)], args := [d] }
  | _ => none }
def utfBeginsRow : OpenClaim := { program := "ytlkfkglcefhbgaadoor", sum := "21c77b9b0ae800152703ee1aa81f5b95b2bc975c585682c88358cd42322bfb30", func := "pendentive/pendentivelaw03.UtfBegins", spec := "utfBegins", named := ["pendentive/utf.starts"], apart := false, laid := [("pendentive/utf.starts", laid_pendentive_utf_starts)] }
def UtfBeginsSaid : Prop := utfBeginsRow.holds Tryd.pinned (OpenSpec.ofChange utfBeginsSpec)

/-- ITS FALSE NEIGHBOUR: 'it returns false'. Refute it at one input. -/
def utfBeginsWrong : ChangeSpec := { name := "utfBegins", fn := fun _ => fun
  | [d] => { results := [.lit (.bool false)], args := [d] }
  | _ => none }
def UtfBeginsWrongFalsely : Prop := utfBeginsRow.holds Tryd.pinned (OpenSpec.ofChange utfBeginsWrong)

/-- 'pendentivelaw03.UtfCounts': WHATEVER THE INPUT: true; the input reads as it did. -/
def utfCountsSpec : ChangeSpec := { name := "utfCounts", fn := fun _ => fun
  | [d] => { results := [.lit (.bool true)], args := [d] }
  | _ => none }
def utfCountsRow : OpenClaim := { program := "ytlkfkglcefhbgaadoor", sum := "21c77b9b0ae800152703ee1aa81f5b95b2bc975c585682c88358cd42322bfb30", func := "pendentive/pendentivelaw03.UtfCounts", spec := "utfCounts", named := ["pendentive/utf.starts"], apart := false, laid := [("pendentive/utf.starts", laid_pendentive_utf_starts)] }
def UtfCountsSaid : Prop := utfCountsRow.holds Tryd.pinned (OpenSpec.ofChange utfCountsSpec)

/-- ITS FALSE NEIGHBOUR: 'it returns false'. Refute it at one input. -/
def utfCountsWrong : ChangeSpec := { name := "utfCounts", fn := fun _ => fun
  | [d] => { results := [.lit (.bool false)], args := [d] }
  | _ => none }
def UtfCountsWrongFalsely : Prop := utfCountsRow.holds Tryd.pinned (OpenSpec.ofChange utfCountsWrong)

/-- 'pendentivelaw03.UtfAscii': WHATEVER THE INPUT: true; the input reads as it did. -/
def utfAsciiSpec : ChangeSpec := { name := "utfAscii", fn := fun _ => fun
  | [d1, d2] => { results := [.lit (.bool true)], args := [d1, d2] }
  | _ => none }
def utfAsciiRow : OpenClaim := { program := "ytlkfkglcefhbgaadoor", sum := "21c77b9b0ae800152703ee1aa81f5b95b2bc975c585682c88358cd42322bfb30", func := "pendentive/pendentivelaw03.UtfAscii", spec := "utfAscii", named := ["pendentive/utf.starts"], apart := false, laid := [("pendentive/utf.starts", laid_pendentive_utf_starts)] }
def UtfAsciiSaid : Prop := utfAsciiRow.holds Tryd.pinned (OpenSpec.ofChange utfAsciiSpec)

/-- ITS FALSE NEIGHBOUR: 'it returns false'. Refute it at one input. -/
def utfAsciiWrong : ChangeSpec := { name := "utfAscii", fn := fun _ => fun
  | [d1, d2] => { results := [.lit (.bool false)], args := [d1, d2] }
  | _ => none }
def UtfAsciiWrongFalsely : Prop := utfAsciiRow.holds Tryd.pinned (OpenSpec.ofChange utfAsciiWrong)

/- THE SECOND FORM. 'bulk': how many values and letters a reading holds, each counted each time it is reached (what is shared counts as often as it is met; a slice's spare places count too). A statement '..UptoSaid' is the law's where the arguments, and the package variables that the reading takes, are together of bulk at most 1048576: NARROWER than '..Said'. Prove '..Said' where nothing that the law and all that it calls make is longer than what came in: it says more and counts as full. Else prove '..UptoSaid'. A law counts once. -/
mutual
def uptoBulk {H : Type} : DataW H → Nat
  | .lit (.string bytes) => bytes.length + 1
  | .lit _ => 1
  | .nil => 1
  | .ptr d => uptoBulk d + 1
  | .slice elems spare => uptoBulkAll elems + uptoBulkAll spare + 1
  | .agg parts => uptoBulkAll parts + 1
  | .iface _ d => uptoBulk d + 1
  | .map entries => uptoBulkEntries entries + 1
  | .held _ => 1
def uptoBulkAll {H : Type} : List (DataW H) → Nat
  | [] => 0
  | d :: r => uptoBulk d + uptoBulkAll r
def uptoBulkEntries {H : Type} : List (Lit × DataW H) → Nat
  | [] => 0
  | x :: r => uptoBulkEntry x + uptoBulkEntries r
def uptoBulkEntry {H : Type} : Lit × DataW H → Nat
  | (.string bytes, d) => bytes.length + uptoBulk d + 1
  | (_, d) => uptoBulk d + 1
 end
def uptoSmall : (H : Type) → List (DataW H) → Bool := fun _ ds => decide (uptoBulkAll ds ≤ 1048576)
def OpenSpec.upto (s : _root_.Go.ChangeSpec) : _root_.Go.OpenSpec := { _root_.Go.OpenSpec.ofChange s with cond := some uptoSmall }

/-- 'pendentivelaw03.UtfReads', WHERE WHAT IT READS IS OF BULK AT MOST 1048576: true; the input reads as it did. -/
def utfReadsUptoRow : OpenClaim := { program := "ytlkfkglcefhbgaadoor", sum := "21c77b9b0ae800152703ee1aa81f5b95b2bc975c585682c88358cd42322bfb30", func := "pendentive/pendentivelaw03.UtfReads", spec := "utfReads", named := ["pendentive/utf.starts"], apart := false, laid := [("pendentive/utf.starts", laid_pendentive_utf_starts)], narrowed := true }
def UtfReadsUptoSaid : Prop := utfReadsUptoRow.holds Tryd.pinned (OpenSpec.upto utfReadsSpec)

/-- 'pendentivelaw03.UtfLetter', WHERE WHAT IT READS IS OF BULK AT MOST 1048576: true; the input reads as it did. -/
def utfLetterUptoRow : OpenClaim := { program := "ytlkfkglcefhbgaadoor", sum := "21c77b9b0ae800152703ee1aa81f5b95b2bc975c585682c88358cd42322bfb30", func := "pendentive/pendentivelaw03.UtfLetter", spec := "utfLetter", named := ["pendentive/utf.starts"], apart := false, laid := [("pendentive/utf.starts", laid_pendentive_utf_starts)], narrowed := true }
def UtfLetterUptoSaid : Prop := utfLetterUptoRow.holds Tryd.pinned (OpenSpec.upto utfLetterSpec)

/-- 'pendentivelaw03.UtfCuts', WHERE WHAT IT READS IS OF BULK AT MOST 1048576: true; the input reads as it did. -/
def utfCutsUptoRow : OpenClaim := { program := "ytlkfkglcefhbgaadoor", sum := "21c77b9b0ae800152703ee1aa81f5b95b2bc975c585682c88358cd42322bfb30", func := "pendentive/pendentivelaw03.UtfCuts", spec := "utfCuts", named := ["pendentive/utf.starts"], apart := false, laid := [("pendentive/utf.starts", laid_pendentive_utf_starts)], narrowed := true }
def UtfCutsUptoSaid : Prop := utfCutsUptoRow.holds Tryd.pinned (OpenSpec.upto utfCutsSpec)

/-- 'pendentivelaw03.UtfJoins', WHERE WHAT IT READS IS OF BULK AT MOST 1048576: true; the input reads as it did. -/
def utfJoinsUptoRow : OpenClaim := { program := "ytlkfkglcefhbgaadoor", sum := "21c77b9b0ae800152703ee1aa81f5b95b2bc975c585682c88358cd42322bfb30", func := "pendentive/pendentivelaw03.UtfJoins", spec := "utfJoins", named := ["pendentive/utf.starts"], apart := false, laid := [("pendentive/utf.starts", laid_pendentive_utf_starts)], narrowed := true }
def UtfJoinsUptoSaid : Prop := utfJoinsUptoRow.holds Tryd.pinned (OpenSpec.upto utfJoinsSpec)

/-- 'pendentivelaw03.UtfBegins', WHERE WHAT IT READS IS OF BULK AT MOST 1048576: true; the input reads as it did. -/
def utfBeginsUptoRow : OpenClaim := { program := "ytlkfkglcefhbgaadoor", sum := "21c77b9b0ae800152703ee1aa81f5b95b2bc975c585682c88358cd42322bfb30", func := "pendentive/pendentivelaw03.UtfBegins", spec := "utfBegins", named := ["pendentive/utf.starts"], apart := false, laid := [("pendentive/utf.starts", laid_pendentive_utf_starts)], narrowed := true }
def UtfBeginsUptoSaid : Prop := utfBeginsUptoRow.holds Tryd.pinned (OpenSpec.upto utfBeginsSpec)

/-- 'pendentivelaw03.UtfCounts', WHERE WHAT IT READS IS OF BULK AT MOST 1048576: true; the input reads as it did. -/
def utfCountsUptoRow : OpenClaim := { program := "ytlkfkglcefhbgaadoor", sum := "21c77b9b0ae800152703ee1aa81f5b95b2bc975c585682c88358cd42322bfb30", func := "pendentive/pendentivelaw03.UtfCounts", spec := "utfCounts", named := ["pendentive/utf.starts"], apart := false, laid := [("pendentive/utf.starts", laid_pendentive_utf_starts)], narrowed := true }
def UtfCountsUptoSaid : Prop := utfCountsUptoRow.holds Tryd.pinned (OpenSpec.upto utfCountsSpec)

/-- 'pendentivelaw03.UtfAscii', WHERE WHAT IT READS IS OF BULK AT MOST 1048576: true; the input reads as it did. -/
def utfAsciiUptoRow : OpenClaim := { program := "ytlkfkglcefhbgaadoor", sum := "21c77b9b0ae800152703ee1aa81f5b95b2bc975c585682c88358cd42322bfb30", func := "pendentive/pendentivelaw03.UtfAscii", spec := "utfAscii", named := ["pendentive/utf.starts"], apart := false, laid := [("pendentive/utf.starts", laid_pendentive_utf_starts)], narrowed := true }
def UtfAsciiUptoSaid : Prop := utfAsciiUptoRow.holds Tryd.pinned (OpenSpec.upto utfAsciiSpec)

end Rows
end Go.Proofs.YtlkfkglcefhbgaaDoor
