/-
  NARROWER THAN 'FOR EVERY INPUT', by the rows' own cells (each row's printed sentence says how): ClosePuts: laid · CloseGets: laid · CloseCodes: laid · CloseApart: laid · CloseSizes: laid · CloseEvery: laid.
  DERIVED. THE GIVEN ROWS OF THIS SEAT. 6 by the template 'for every input the law returns true; each argument reads behind the call as it read before'; 0 by the template 'total and deterministic' (their statements: YtnogaaalpfjgcaaDoorTotals.lean).
  GIVEN WITH THE SEED: the statements are not yours to turn. If you find one false, say at which input.
  Laid BY PROGRAM, IN A SANDBOX (cutbox-rows.mjs): the forced cells as the released guide's own fill.sh prints them over the translation c23e506cd4d9592d… (all of the seat's roots in one cut). By AI agents, Wed Nov 11 2026. No macro, syntax, notation, axiom, sorry.
-/
import Derived.Test.YtnogaaalpfjgcaaDoorChecked
import GoSem.Claim
import GoSem.ClaimJoined
import GoSem.ClaimMapViews
import Derived.JoinedTies
import Derived.KernelRfl
namespace Go.Proofs.YtnogaaalpfjgcaaDoor
/- THE CELL 'sum', in the pinned program and in every row, IS THE sha256 OF THE DUMP (.gsa) THAT YtnogaaalpfjgcaaDoorProg.lean LOADS. Nothing in Lean hashes anything: it is a label: what it is worth is what the hold of that sum in a sandbox is worth. -/
noncomputable def Tryd.pinned : Pinned := { name := "ytnogaaalpfjgcaadoor", sum := "c23e506cd4d9592d2992253f6266b22420cf2296b2f3645a27c5725604810bf0", checked := Tryd.checked }
namespace Rows
def none {H : Type} : Left H := { results := [], args := [] }

/- WHAT THE LISTED PACKAGE-LEVEL VARIABLES READ AS WHEN THE CALL BEGINS. Each datum BY PROGRAM (the guide's laid-datum.mjs) off the statement by which the dump's own 'gosem.cut.vars' lays the variable. In a bare row this is a premise. The card (YtnogaaalpfjgcaaDoorCards.lean) ties it to the program's text. -/
def laid_pendentive_utf_starts {H : Type} : DataW H := .agg [.agg [.agg [.lit (.int .u8 0), .lit (.int .u8 127)], .lit (.int .i64 0), .agg [.lit (.int .u8 0), .lit (.int .u8 0)]], .agg [.agg [.lit (.int .u8 194), .lit (.int .u8 223)], .lit (.int .i64 1), .agg [.lit (.int .u8 128), .lit (.int .u8 191)]], .agg [.agg [.lit (.int .u8 224), .lit (.int .u8 224)], .lit (.int .i64 2), .agg [.lit (.int .u8 160), .lit (.int .u8 191)]], .agg [.agg [.lit (.int .u8 225), .lit (.int .u8 236)], .lit (.int .i64 2), .agg [.lit (.int .u8 128), .lit (.int .u8 191)]], .agg [.agg [.lit (.int .u8 237), .lit (.int .u8 237)], .lit (.int .i64 2), .agg [.lit (.int .u8 128), .lit (.int .u8 159)]], .agg [.agg [.lit (.int .u8 238), .lit (.int .u8 239)], .lit (.int .i64 2), .agg [.lit (.int .u8 128), .lit (.int .u8 191)]], .agg [.agg [.lit (.int .u8 240), .lit (.int .u8 240)], .lit (.int .i64 3), .agg [.lit (.int .u8 144), .lit (.int .u8 191)]], .agg [.agg [.lit (.int .u8 241), .lit (.int .u8 243)], .lit (.int .i64 3), .agg [.lit (.int .u8 128), .lit (.int .u8 191)]], .agg [.agg [.lit (.int .u8 244), .lit (.int .u8 244)], .lit (.int .i64 3), .agg [.lit (.int .u8 128), .lit (.int .u8 143)]]]

/-- 'pendentivelaw11.ClosePuts': WHATEVER THE INPUT: true; the input reads as it did. -/
def closePutsSpec : ChangeSpec := { name := "closePuts", fn := fun _ => fun
  | [d1, d2] => { results := [.lit (.bool true)], args := [d1, d2] }
  | _ => none }
def closePutsRow : OpenClaim := { program := "ytnogaaalpfjgcaadoor", sum := "c23e506cd4d9592d2992253f6266b22420cf2296b2f3645a27c5725604810bf0", func := "pendentive/pendentivelaw11.ClosePuts", spec := "closePuts", unfollowed := true, recurses := true, named := ["pendentive/utf.starts"], apart := false, laid := [("pendentive/utf.starts", laid_pendentive_utf_starts)] }
def ClosePutsSaid : Prop := closePutsRow.holds Tryd.pinned (OpenSpec.ofChange closePutsSpec)

/-- ITS FALSE NEIGHBOUR: 'it returns false'. Refute it at one input. -/
def closePutsWrong : ChangeSpec := { name := "closePuts", fn := fun _ => fun
  | [d1, d2] => { results := [.lit (.bool false)], args := [d1, d2] }
  | _ => none }
def ClosePutsWrongFalsely : Prop := closePutsRow.holds Tryd.pinned (OpenSpec.ofChange closePutsWrong)

/-- 'pendentivelaw11.CloseGets': WHATEVER THE INPUT: true; the input reads as it did. -/
def closeGetsSpec : ChangeSpec := { name := "closeGets", fn := fun _ => fun
  | [d] => { results := [.lit (.bool true)], args := [d] }
  | _ => none }
def closeGetsRow : OpenClaim := { program := "ytnogaaalpfjgcaadoor", sum := "c23e506cd4d9592d2992253f6266b22420cf2296b2f3645a27c5725604810bf0", func := "pendentive/pendentivelaw11.CloseGets", spec := "closeGets", unfollowed := true, recurses := true, named := ["pendentive/utf.starts"], apart := false, laid := [("pendentive/utf.starts", laid_pendentive_utf_starts)] }
def CloseGetsSaid : Prop := closeGetsRow.holds Tryd.pinned (OpenSpec.ofChange closeGetsSpec)

/-- ITS FALSE NEIGHBOUR: 'it returns false'. Refute it at one input. -/
def closeGetsWrong : ChangeSpec := { name := "closeGets", fn := fun _ => fun
  | [d] => { results := [.lit (.bool false)], args := [d] }
  | _ => none }
def CloseGetsWrongFalsely : Prop := closeGetsRow.holds Tryd.pinned (OpenSpec.ofChange closeGetsWrong)

/-- 'pendentivelaw11.CloseCodes': WHATEVER THE INPUT: true; the input reads as it did. -/
def closeCodesSpec : ChangeSpec := { name := "closeCodes", fn := fun _ => fun
  | [d1, d2] => { results := [.lit (.bool true)], args := [d1, d2] }
  | _ => none }
def closeCodesRow : OpenClaim := { program := "ytnogaaalpfjgcaadoor", sum := "c23e506cd4d9592d2992253f6266b22420cf2296b2f3645a27c5725604810bf0", func := "pendentive/pendentivelaw11.CloseCodes", spec := "closeCodes", unfollowed := true, recurses := true, named := ["pendentive/utf.starts"], apart := false, laid := [("pendentive/utf.starts", laid_pendentive_utf_starts)] }
def CloseCodesSaid : Prop := closeCodesRow.holds Tryd.pinned (OpenSpec.ofChange closeCodesSpec)

/-- ITS FALSE NEIGHBOUR: 'it returns false'. Refute it at one input. -/
def closeCodesWrong : ChangeSpec := { name := "closeCodes", fn := fun _ => fun
  | [d1, d2] => { results := [.lit (.bool false)], args := [d1, d2] }
  | _ => none }
def CloseCodesWrongFalsely : Prop := closeCodesRow.holds Tryd.pinned (OpenSpec.ofChange closeCodesWrong)

/-- 'pendentivelaw11.CloseApart': WHATEVER THE INPUT: true; the input reads as it did. -/
def closeApartSpec : ChangeSpec := { name := "closeApart", fn := fun _ => fun
  | [d1, d2, d3, d4] => { results := [.lit (.bool true)], args := [d1, d2, d3, d4] }
  | _ => none }
def closeApartRow : OpenClaim := { program := "ytnogaaalpfjgcaadoor", sum := "c23e506cd4d9592d2992253f6266b22420cf2296b2f3645a27c5725604810bf0", func := "pendentive/pendentivelaw11.CloseApart", spec := "closeApart", unfollowed := true, recurses := true, named := ["pendentive/utf.starts"], apart := false, laid := [("pendentive/utf.starts", laid_pendentive_utf_starts)] }
def CloseApartSaid : Prop := closeApartRow.holds Tryd.pinned (OpenSpec.ofChange closeApartSpec)

/-- ITS FALSE NEIGHBOUR: 'it returns false'. Refute it at one input. -/
def closeApartWrong : ChangeSpec := { name := "closeApart", fn := fun _ => fun
  | [d1, d2, d3, d4] => { results := [.lit (.bool false)], args := [d1, d2, d3, d4] }
  | _ => none }
def CloseApartWrongFalsely : Prop := closeApartRow.holds Tryd.pinned (OpenSpec.ofChange closeApartWrong)

/-- 'pendentivelaw11.CloseSizes': WHATEVER THE INPUT: true; the input reads as it did. -/
def closeSizesSpec : ChangeSpec := { name := "closeSizes", fn := fun _ => fun
  | [d1, d2] => { results := [.lit (.bool true)], args := [d1, d2] }
  | _ => none }
def closeSizesRow : OpenClaim := { program := "ytnogaaalpfjgcaadoor", sum := "c23e506cd4d9592d2992253f6266b22420cf2296b2f3645a27c5725604810bf0", func := "pendentive/pendentivelaw11.CloseSizes", spec := "closeSizes", unfollowed := true, recurses := true, named := ["pendentive/utf.starts"], apart := false, laid := [("pendentive/utf.starts", laid_pendentive_utf_starts)] }
def CloseSizesSaid : Prop := closeSizesRow.holds Tryd.pinned (OpenSpec.ofChange closeSizesSpec)

/-- ITS FALSE NEIGHBOUR: 'it returns false'. Refute it at one input. -/
def closeSizesWrong : ChangeSpec := { name := "closeSizes", fn := fun _ => fun
  | [d1, d2] => { results := [.lit (.bool false)], args := [d1, d2] }
  | _ => none }
def CloseSizesWrongFalsely : Prop := closeSizesRow.holds Tryd.pinned (OpenSpec.ofChange closeSizesWrong)

/-- 'pendentivelaw11.CloseEvery': WHATEVER THE INPUT: true; the input reads as it did. -/
def closeEverySpec : ChangeSpec := { name := "closeEvery", fn := fun _ => fun
  | [d] => { results := [.lit (.bool true)], args := [d] }
  | _ => none }
def closeEveryRow : OpenClaim := { program := "ytnogaaalpfjgcaadoor", sum := "c23e506cd4d9592d2992253f6266b22420cf2296b2f3645a27c5725604810bf0", func := "pendentive/pendentivelaw11.CloseEvery", spec := "closeEvery", unfollowed := true, recurses := true, named := ["pendentive/utf.starts"], apart := false, laid := [("pendentive/utf.starts", laid_pendentive_utf_starts)] }
def CloseEverySaid : Prop := closeEveryRow.holds Tryd.pinned (OpenSpec.ofChange closeEverySpec)

/-- ITS FALSE NEIGHBOUR: 'it returns false'. Refute it at one input. -/
def closeEveryWrong : ChangeSpec := { name := "closeEvery", fn := fun _ => fun
  | [d] => { results := [.lit (.bool false)], args := [d] }
  | _ => none }
def CloseEveryWrongFalsely : Prop := closeEveryRow.holds Tryd.pinned (OpenSpec.ofChange closeEveryWrong)

/- THE SECOND FORM. 'bulk': how many values and letters a reading holds, each counted each time it is reached (what is shared counts as often as it is met; a slice's spare places count too). A statement '..UptoSaid' is the law's where the arguments, and the package variables that the reading takes, are together of bulk at most 1048576: NARROWER than '..Said'. Prove '..Said' where nothing that the law and all that it calls make is longer than what came in: it says more and counts as full. Else prove '..UptoSaid'. A law counts once. -/
mutual
def uptoBulk {H : Type} : DataW H → Nat
  | .lit (.string bytes) => bytes.length + 1
  | .lit _ => 1
  | .nil => 1
  | .ptr d => uptoBulk d + 1
  | .slice elems spare => uptoBulkAll elems + uptoBulkAll spare + 1
  | .agg parts => uptoBulkAll parts + 1
  | .iface _ d => uptoBulk d + 1
  | .map entries => uptoBulkEntries entries + 1
  | .held _ => 1
def uptoBulkAll {H : Type} : List (DataW H) → Nat
  | [] => 0
  | d :: r => uptoBulk d + uptoBulkAll r
def uptoBulkEntries {H : Type} : List (Lit × DataW H) → Nat
  | [] => 0
  | x :: r => uptoBulkEntry x + uptoBulkEntries r
def uptoBulkEntry {H : Type} : Lit × DataW H → Nat
  | (.string bytes, d) => bytes.length + uptoBulk d + 1
  | (_, d) => uptoBulk d + 1
 end
def uptoSmall : (H : Type) → List (DataW H) → Bool := fun _ ds => decide (uptoBulkAll ds ≤ 1048576)
def OpenSpec.upto (s : _root_.Go.ChangeSpec) : _root_.Go.OpenSpec := { _root_.Go.OpenSpec.ofChange s with cond := some uptoSmall }

/-- 'pendentivelaw11.ClosePuts', WHERE WHAT IT READS IS OF BULK AT MOST 1048576: true; the input reads as it did. -/
def closePutsUptoRow : OpenClaim := { program := "ytnogaaalpfjgcaadoor", sum := "c23e506cd4d9592d2992253f6266b22420cf2296b2f3645a27c5725604810bf0", func := "pendentive/pendentivelaw11.ClosePuts", spec := "closePuts", unfollowed := true, recurses := true, named := ["pendentive/utf.starts"], apart := false, laid := [("pendentive/utf.starts", laid_pendentive_utf_starts)], narrowed := true }
def ClosePutsUptoSaid : Prop := closePutsUptoRow.holds Tryd.pinned (OpenSpec.upto closePutsSpec)

/-- 'pendentivelaw11.CloseGets', WHERE WHAT IT READS IS OF BULK AT MOST 1048576: true; the input reads as it did. -/
def closeGetsUptoRow : OpenClaim := { program := "ytnogaaalpfjgcaadoor", sum := "c23e506cd4d9592d2992253f6266b22420cf2296b2f3645a27c5725604810bf0", func := "pendentive/pendentivelaw11.CloseGets", spec := "closeGets", unfollowed := true, recurses := true, named := ["pendentive/utf.starts"], apart := false, laid := [("pendentive/utf.starts", laid_pendentive_utf_starts)], narrowed := true }
def CloseGetsUptoSaid : Prop := closeGetsUptoRow.holds Tryd.pinned (OpenSpec.upto closeGetsSpec)

/-- 'pendentivelaw11.CloseCodes', WHERE WHAT IT READS IS OF BULK AT MOST 1048576: true; the input reads as it did. -/
def closeCodesUptoRow : OpenClaim := { program := "ytnogaaalpfjgcaadoor", sum := "c23e506cd4d9592d2992253f6266b22420cf2296b2f3645a27c5725604810bf0", func := "pendentive/pendentivelaw11.CloseCodes", spec := "closeCodes", unfollowed := true, recurses := true, named := ["pendentive/utf.starts"], apart := false, laid := [("pendentive/utf.starts", laid_pendentive_utf_starts)], narrowed := true }
def CloseCodesUptoSaid : Prop := closeCodesUptoRow.holds Tryd.pinned (OpenSpec.upto closeCodesSpec)

/-- 'pendentivelaw11.CloseApart', WHERE WHAT IT READS IS OF BULK AT MOST 1048576: true; the input reads as it did. -/
def closeApartUptoRow : OpenClaim := { program := "ytnogaaalpfjgcaadoor", sum := "c23e506cd4d9592d2992253f6266b22420cf2296b2f3645a27c5725604810bf0", func := "pendentive/pendentivelaw11.CloseApart", spec := "closeApart", unfollowed := true, recurses := true, named := ["pendentive/utf.starts"], apart := false, laid := [("pendentive/utf.starts", laid_pendentive_utf_starts)], narrowed := true }
def CloseApartUptoSaid : Prop := closeApartUptoRow.holds Tryd.pinned (OpenSpec.upto closeApartSpec)

/-- 'pendentivelaw11.CloseSizes', WHERE WHAT IT READS IS OF BULK AT MOST 1048576: true; the input reads as it did. -/
def closeSizesUptoRow : OpenClaim := { program := "ytnogaaalpfjgcaadoor", sum := "c23e506cd4d9592d2992253f6266b22420cf2296b2f3645a27c5725604810bf0", func := "pendentive/pendentivelaw11.CloseSizes", spec := "closeSizes", unfollowed := true, recurses := true, named := ["pendentive/utf.starts"], apart := false, laid := [("pendentive/utf.starts", laid_pendentive_utf_starts)], narrowed := true }
def CloseSizesUptoSaid : Prop := closeSizesUptoRow.holds Tryd.pinned (OpenSpec.upto closeSizesSpec)

/-- 'pendentivelaw11.CloseEvery', WHERE WHAT IT READS IS OF BULK AT MOST 1048576: true; the input reads as it did. -/
def closeEveryUptoRow : OpenClaim := { program := "ytnogaaalpfjgcaadoor", sum := "c23e506cd4d9592d2992253f6266b22420cf2296b2f3645a27c5725604810bf0", func := "pendentive/pendentivelaw11.CloseEvery", spec := "closeEvery", unfollowed := true, recurses := true, named := ["pendentive/utf.starts"], apart := false, laid := [("pendentive/utf.starts", laid_pendentive_utf_starts)], narrowed := true }
def CloseEveryUptoSaid : Prop := closeEveryUptoRow.holds Tryd.pinned (OpenSpec.upto closeEverySpec)

end Rows
end Go.Proofs.YtnogaaalpfjgcaaDoor
