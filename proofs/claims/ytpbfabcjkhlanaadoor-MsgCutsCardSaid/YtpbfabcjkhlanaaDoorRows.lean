/-
  NARROWER THAN 'FOR EVERY INPUT', by the rows' own cells (each row's printed sentence says how): MsgCuts: laid · MsgStops: laid · MsgWhole: laid · MsgBound: laid · MsgMasks: laid · MsgOrder: laid.
  DERIVED. THE GIVEN ROWS OF THIS SEAT. 6 by the template 'for every input the law returns true; each argument reads behind the call as it read before'; 0 by the template 'total and deterministic' (their statements: YtpbfabcjkhlanaaDoorTotals.lean).
  GIVEN WITH THE SEED: the statements are not yours to turn. If you find one false, say at which input.
  Laid BY PROGRAM, IN A SANDBOX (cutbox-rows.mjs): the forced cells as the released guide's own fill.sh prints them over the translation bc0685ec5ecc072e… (all of the seat's roots in one cut). By AI agents, Wed Nov 11 2026. No macro, syntax, notation, axiom, sorry.
-/
import Derived.Test.YtpbfabcjkhlanaaDoorChecked
import GoSem.Claim
import GoSem.ClaimJoined
import GoSem.ClaimMapViews
import Derived.JoinedTies
import Derived.KernelRfl
namespace Go.Proofs.YtpbfabcjkhlanaaDoor
/- THE CELL 'sum', in the pinned program and in every row, IS THE sha256 OF THE DUMP (.gsa) THAT YtpbfabcjkhlanaaDoorProg.lean LOADS. Nothing in Lean hashes anything: it is a label: what it is worth is what the hold of that sum in a sandbox is worth. -/
noncomputable def Tryd.pinned : Pinned := { name := "ytpbfabcjkhlanaadoor", sum := "bc0685ec5ecc072ef289908673fbda2d834fd31ccc6fe75d4ffb9936c19c1498", checked := Tryd.checked }
namespace Rows
def none {H : Type} : Left H := { results := [], args := [] }

/- WHAT THE LISTED PACKAGE-LEVEL VARIABLES READ AS WHEN THE CALL BEGINS. Each datum BY PROGRAM (the guide's laid-datum.mjs) off the statement by which the dump's own 'gosem.cut.vars' lays the variable. In a bare row this is a premise. The card (YtpbfabcjkhlanaaDoorCards.lean) ties it to the program's text. -/
def laid_pendentive_utf_starts {H : Type} : DataW H := .agg [.agg [.agg [.lit (.int .u8 0), .lit (.int .u8 127)], .lit (.int .i64 0), .agg [.lit (.int .u8 0), .lit (.int .u8 0)]], .agg [.agg [.lit (.int .u8 194), .lit (.int .u8 223)], .lit (.int .i64 1), .agg [.lit (.int .u8 128), .lit (.int .u8 191)]], .agg [.agg [.lit (.int .u8 224), .lit (.int .u8 224)], .lit (.int .i64 2), .agg [.lit (.int .u8 160), .lit (.int .u8 191)]], .agg [.agg [.lit (.int .u8 225), .lit (.int .u8 236)], .lit (.int .i64 2), .agg [.lit (.int .u8 128), .lit (.int .u8 191)]], .agg [.agg [.lit (.int .u8 237), .lit (.int .u8 237)], .lit (.int .i64 2), .agg [.lit (.int .u8 128), .lit (.int .u8 159)]], .agg [.agg [.lit (.int .u8 238), .lit (.int .u8 239)], .lit (.int .i64 2), .agg [.lit (.int .u8 128), .lit (.int .u8 191)]], .agg [.agg [.lit (.int .u8 240), .lit (.int .u8 240)], .lit (.int .i64 3), .agg [.lit (.int .u8 144), .lit (.int .u8 191)]], .agg [.agg [.lit (.int .u8 241), .lit (.int .u8 243)], .lit (.int .i64 3), .agg [.lit (.int .u8 128), .lit (.int .u8 191)]], .agg [.agg [.lit (.int .u8 244), .lit (.int .u8 244)], .lit (.int .i64 3), .agg [.lit (.int .u8 128), .lit (.int .u8 143)]]]

/-- 'pendentivelaw12.MsgCuts': WHATEVER THE INPUT: true; the input reads as it did. -/
def msgCutsSpec : ChangeSpec := { name := "msgCuts", fn := fun _ => fun
  | [d1, d2, d3, d4] => { results := [.lit (.bool true)], args := [d1, d2, d3, d4] }
  | _ => none }
def msgCutsRow : OpenClaim := { program := "ytpbfabcjkhlanaadoor", sum := "bc0685ec5ecc072ef289908673fbda2d834fd31ccc6fe75d4ffb9936c19c1498", func := "pendentive/pendentivelaw12.MsgCuts", spec := "msgCuts", unfollowed := true, recurses := true, named := ["pendentive/utf.starts"], apart := false, laid := [("pendentive/utf.starts", laid_pendentive_utf_starts)] }
def MsgCutsSaid : Prop := msgCutsRow.holds Tryd.pinned (OpenSpec.ofChange msgCutsSpec)

/-- ITS FALSE NEIGHBOUR: 'it returns false'. Refute it at one input. -/
def msgCutsWrong : ChangeSpec := { name := "msgCuts", fn := fun _ => fun
  | [d1, d2, d3, d4] => { results := [.lit (.bool false)], args := [d1, d2, d3, d4] }
  | _ => none }
def MsgCutsWrongFalsely : Prop := msgCutsRow.holds Tryd.pinned (OpenSpec.ofChange msgCutsWrong)

/-- 'pendentivelaw12.MsgStops': WHATEVER THE INPUT: true; the input reads as it did. -/
def msgStopsSpec : ChangeSpec := { name := "msgStops", fn := fun _ => fun
  | [d1, d2] => { results := [.lit (.bool true)], args := [d1, d2] }
  | _ => none }
def msgStopsRow : OpenClaim := { program := "ytpbfabcjkhlanaadoor", sum := "bc0685ec5ecc072ef289908673fbda2d834fd31ccc6fe75d4ffb9936c19c1498", func := "pendentive/pendentivelaw12.MsgStops", spec := "msgStops", unfollowed := true, recurses := true, named := ["pendentive/utf.starts"], apart := false, laid := [("pendentive/utf.starts", laid_pendentive_utf_starts)] }
def MsgStopsSaid : Prop := msgStopsRow.holds Tryd.pinned (OpenSpec.ofChange msgStopsSpec)

/-- ITS FALSE NEIGHBOUR: 'it returns false'. Refute it at one input. -/
def msgStopsWrong : ChangeSpec := { name := "msgStops", fn := fun _ => fun
  | [d1, d2] => { results := [.lit (.bool false)], args := [d1, d2] }
  | _ => none }
def MsgStopsWrongFalsely : Prop := msgStopsRow.holds Tryd.pinned (OpenSpec.ofChange msgStopsWrong)

/-- 'pendentivelaw12.MsgWhole': WHATEVER THE INPUT: true; the input reads as it did. -/
def msgWholeSpec : ChangeSpec := { name := "msgWhole", fn := fun _ => fun
  | [d1, d2] => { results := [.lit (.bool true)], args := [d1, d2] }
  | _ => none }
def msgWholeRow : OpenClaim := { program := "ytpbfabcjkhlanaadoor", sum := "bc0685ec5ecc072ef289908673fbda2d834fd31ccc6fe75d4ffb9936c19c1498", func := "pendentive/pendentivelaw12.MsgWhole", spec := "msgWhole", unfollowed := true, recurses := true, named := ["pendentive/utf.starts"], apart := false, laid := [("pendentive/utf.starts", laid_pendentive_utf_starts)] }
def MsgWholeSaid : Prop := msgWholeRow.holds Tryd.pinned (OpenSpec.ofChange msgWholeSpec)

/-- ITS FALSE NEIGHBOUR: 'it returns false'. Refute it at one input. -/
def msgWholeWrong : ChangeSpec := { name := "msgWhole", fn := fun _ => fun
  | [d1, d2] => { results := [.lit (.bool false)], args := [d1, d2] }
  | _ => none }
def MsgWholeWrongFalsely : Prop := msgWholeRow.holds Tryd.pinned (OpenSpec.ofChange msgWholeWrong)

/-- 'pendentivelaw12.MsgBound': WHATEVER THE INPUT: true; the input reads as it did. -/
def msgBoundSpec : ChangeSpec := { name := "msgBound", fn := fun _ => fun
  | [d1, d2, d3] => { results := [.lit (.bool true)], args := [d1, d2, d3] }
  | _ => none }
def msgBoundRow : OpenClaim := { program := "ytpbfabcjkhlanaadoor", sum := "bc0685ec5ecc072ef289908673fbda2d834fd31ccc6fe75d4ffb9936c19c1498", func := "pendentive/pendentivelaw12.MsgBound", spec := "msgBound", unfollowed := true, recurses := true, named := ["pendentive/utf.starts"], apart := false, laid := [("pendentive/utf.starts", laid_pendentive_utf_starts)] }
def MsgBoundSaid : Prop := msgBoundRow.holds Tryd.pinned (OpenSpec.ofChange msgBoundSpec)

/-- ITS FALSE NEIGHBOUR: 'it returns false'. Refute it at one input. -/
def msgBoundWrong : ChangeSpec := { name := "msgBound", fn := fun _ => fun
  | [d1, d2, d3] => { results := [.lit (.bool false)], args := [d1, d2, d3] }
  | _ => none }
def MsgBoundWrongFalsely : Prop := msgBoundRow.holds Tryd.pinned (OpenSpec.ofChange msgBoundWrong)

/-- 'pendentivelaw12.MsgMasks': WHATEVER THE INPUT: true; the input reads as it did. -/
def msgMasksSpec : ChangeSpec := { name := "msgMasks", fn := fun _ => fun
  | [d1, d2] => { results := [.lit (.bool true)], args := [d1, d2] }
  | _ => none }
def msgMasksRow : OpenClaim := { program := "ytpbfabcjkhlanaadoor", sum := "bc0685ec5ecc072ef289908673fbda2d834fd31ccc6fe75d4ffb9936c19c1498", func := "pendentive/pendentivelaw12.MsgMasks", spec := "msgMasks", unfollowed := true, recurses := true, named := ["pendentive/utf.starts"], apart := false, laid := [("pendentive/utf.starts", laid_pendentive_utf_starts)] }
def MsgMasksSaid : Prop := msgMasksRow.holds Tryd.pinned (OpenSpec.ofChange msgMasksSpec)

/-- ITS FALSE NEIGHBOUR: 'it returns false'. Refute it at one input. -/
def msgMasksWrong : ChangeSpec := { name := "msgMasks", fn := fun _ => fun
  | [d1, d2] => { results := [.lit (.bool false)], args := [d1, d2] }
  | _ => none }
def MsgMasksWrongFalsely : Prop := msgMasksRow.holds Tryd.pinned (OpenSpec.ofChange msgMasksWrong)

/-- 'pendentivelaw12.MsgOrder': WHATEVER THE INPUT: true; the input reads as it did. -/
def msgOrderSpec : ChangeSpec := { name := "msgOrder", fn := fun _ => fun
  | [d1, d2, d3] => { results := [.lit (.bool true)], args := [d1, d2, d3] }
  | _ => none }
def msgOrderRow : OpenClaim := { program := "ytpbfabcjkhlanaadoor", sum := "bc0685ec5ecc072ef289908673fbda2d834fd31ccc6fe75d4ffb9936c19c1498", func := "pendentive/pendentivelaw12.MsgOrder", spec := "msgOrder", unfollowed := true, recurses := true, named := ["pendentive/utf.starts"], apart := false, laid := [("pendentive/utf.starts", laid_pendentive_utf_starts)] }
def MsgOrderSaid : Prop := msgOrderRow.holds Tryd.pinned (OpenSpec.ofChange msgOrderSpec)

/-- ITS FALSE NEIGHBOUR: 'it returns false'. Refute it at one input. -/
def msgOrderWrong : ChangeSpec := { name := "msgOrder", fn := fun _ => fun
  | [d1, d2, d3] => { results := [.lit (.bool false)], args := [d1, d2, d3] }
  | _ => none }
def MsgOrderWrongFalsely : Prop := msgOrderRow.holds Tryd.pinned (OpenSpec.ofChange msgOrderWrong)

/- THE SECOND FORM. 'bulk': how many values and letters a reading holds, each counted each time it is reached (what is shared counts as often as it is met; a slice's spare places count too). A statement '..UptoSaid' is the law's where the arguments, and the package variables that the reading takes, are together of bulk at most 1048576: NARROWER than '..Said'. Prove '..Said' where nothing that the law and all that it calls make is longer than what came in: it says more and counts as full. Else prove '..UptoSaid'. A law counts once. -/
mutual
def uptoBulk {H : Type} : DataW H → Nat
  | .lit (.string bytes) => bytes.length + 1
  | .lit _ => 1
  | .nil => 1
  | .ptr d => uptoBulk d + 1
  | .slice elems spare => uptoBulkAll elems + uptoBulkAll spare + 1
  | .agg parts => uptoBulkAll parts + 1
  | .iface _ d => uptoBulk d + 1
  | .map entries => uptoBulkEntries entries + 1
  | .held _ => 1
def uptoBulkAll {H : Type} : List (DataW H) → Nat
  | [] => 0
  | d :: r => uptoBulk d + uptoBulkAll r
def uptoBulkEntries {H : Type} : List (Lit × DataW H) → Nat
  | [] => 0
  | x :: r => uptoBulkEntry x + uptoBulkEntries r
def uptoBulkEntry {H : Type} : Lit × DataW H → Nat
  | (.string bytes, d) => bytes.length + uptoBulk d + 1
  | (_, d) => uptoBulk d + 1
 end
def uptoSmall : (H : Type) → List (DataW H) → Bool := fun _ ds => decide (uptoBulkAll ds ≤ 1048576)
def OpenSpec.upto (s : _root_.Go.ChangeSpec) : _root_.Go.OpenSpec := { _root_.Go.OpenSpec.ofChange s with cond := some uptoSmall }

/-- 'pendentivelaw12.MsgCuts', WHERE WHAT IT READS IS OF BULK AT MOST 1048576: true; the input reads as it did. -/
def msgCutsUptoRow : OpenClaim := { program := "ytpbfabcjkhlanaadoor", sum := "bc0685ec5ecc072ef289908673fbda2d834fd31ccc6fe75d4ffb9936c19c1498", func := "pendentive/pendentivelaw12.MsgCuts", spec := "msgCuts", unfollowed := true, recurses := true, named := ["pendentive/utf.starts"], apart := false, laid := [("pendentive/utf.starts", laid_pendentive_utf_starts)], narrowed := true }
def MsgCutsUptoSaid : Prop := msgCutsUptoRow.holds Tryd.pinned (OpenSpec.upto msgCutsSpec)

/-- 'pendentivelaw12.MsgStops', WHERE WHAT IT READS IS OF BULK AT MOST 1048576: true; the input reads as it did. -/
def msgStopsUptoRow : OpenClaim := { program := "ytpbfabcjkhlanaadoor", sum := "bc0685ec5ecc072ef289908673fbda2d834fd31ccc6fe75d4ffb9936c19c1498", func := "pendentive/pendentivelaw12.MsgStops", spec := "msgStops", unfollowed := true, recurses := true, named := ["pendentive/utf.starts"], apart := false, laid := [("pendentive/utf.starts", laid_pendentive_utf_starts)], narrowed := true }
def MsgStopsUptoSaid : Prop := msgStopsUptoRow.holds Tryd.pinned (OpenSpec.upto msgStopsSpec)

/-- 'pendentivelaw12.MsgWhole', WHERE WHAT IT READS IS OF BULK AT MOST 1048576: true; the input reads as it did. -/
def msgWholeUptoRow : OpenClaim := { program := "ytpbfabcjkhlanaadoor", sum := "bc0685ec5ecc072ef289908673fbda2d834fd31ccc6fe75d4ffb9936c19c1498", func := "pendentive/pendentivelaw12.MsgWhole", spec := "msgWhole", unfollowed := true, recurses := true, named := ["pendentive/utf.starts"], apart := false, laid := [("pendentive/utf.starts", laid_pendentive_utf_starts)], narrowed := true }
def MsgWholeUptoSaid : Prop := msgWholeUptoRow.holds Tryd.pinned (OpenSpec.upto msgWholeSpec)

/-- 'pendentivelaw12.MsgBound', WHERE WHAT IT READS IS OF BULK AT MOST 1048576: true; the input reads as it did. -/
def msgBoundUptoRow : OpenClaim := { program := "ytpbfabcjkhlanaadoor", sum := "bc0685ec5ecc072ef289908673fbda2d834fd31ccc6fe75d4ffb9936c19c1498", func := "pendentive/pendentivelaw12.MsgBound", spec := "msgBound", unfollowed := true, recurses := true, named := ["pendentive/utf.starts"], apart := false, laid := [("pendentive/utf.starts", laid_pendentive_utf_starts)], narrowed := true }
def MsgBoundUptoSaid : Prop := msgBoundUptoRow.holds Tryd.pinned (OpenSpec.upto msgBoundSpec)

/-- 'pendentivelaw12.MsgMasks', WHERE WHAT IT READS IS OF BULK AT MOST 1048576: true; the input reads as it did. -/
def msgMasksUptoRow : OpenClaim := { program := "ytpbfabcjkhlanaadoor", sum := "bc0685ec5ecc072ef289908673fbda2d834fd31ccc6fe75d4ffb9936c19c1498", func := "pendentive/pendentivelaw12.MsgMasks", spec := "msgMasks", unfollowed := true, recurses := true, named := ["pendentive/utf.starts"], apart := false, laid := [("pendentive/utf.starts", laid_pendentive_utf_starts)], narrowed := true }
def MsgMasksUptoSaid : Prop := msgMasksUptoRow.holds Tryd.pinned (OpenSpec.upto msgMasksSpec)

/-- 'pendentivelaw12.MsgOrder', WHERE WHAT IT READS IS OF BULK AT MOST 1048576: true; the input reads as it did. -/
def msgOrderUptoRow : OpenClaim := { program := "ytpbfabcjkhlanaadoor", sum := "bc0685ec5ecc072ef289908673fbda2d834fd31ccc6fe75d4ffb9936c19c1498", func := "pendentive/pendentivelaw12.MsgOrder", spec := "msgOrder", unfollowed := true, recurses := true, named := ["pendentive/utf.starts"], apart := false, laid := [("pendentive/utf.starts", laid_pendentive_utf_starts)], narrowed := true }
def MsgOrderUptoSaid : Prop := msgOrderUptoRow.holds Tryd.pinned (OpenSpec.upto msgOrderSpec)

end Rows
end Go.Proofs.YtpbfabcjkhlanaaDoor
