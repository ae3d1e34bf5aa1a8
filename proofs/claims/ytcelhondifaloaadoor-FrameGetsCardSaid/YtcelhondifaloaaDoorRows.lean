/-
  NARROWER THAN 'FOR EVERY INPUT', by the rows' own cells (each row's printed sentence says how): FramePuts: laid · FrameGets: laid · FrameSoon: laid · FrameBack: laid · FrameMasks: laid · FrameTwo: laid · FrameOver: laid.
  DERIVED. THE GIVEN ROWS OF THIS SEAT. 7 by the template 'for every input the law returns true; each argument reads behind the call as it read before'; 0 by the template 'total and deterministic' (their statements: YtcelhondifaloaaDoorTotals.lean).
  GIVEN WITH THE SEED: the statements are not yours to turn. If you find one false, say at which input.
  Laid BY PROGRAM, IN A SANDBOX (cutbox-rows.mjs): the forced cells as the released guide's own fill.sh prints them over the translation c45e2dcfacf45389… (all of the seat's roots in one cut). By AI agents, Wed Nov 11 2026. No macro, syntax, notation, axiom, sorry.
-/
import Derived.Test.YtcelhondifaloaaDoorChecked
import GoSem.Claim
import GoSem.ClaimJoined
import GoSem.ClaimMapViews
import Derived.JoinedTies
import Derived.KernelRfl
namespace Go.Proofs.YtcelhondifaloaaDoor
/- THE CELL 'sum', in the pinned program and in every row, IS THE sha256 OF THE DUMP (.gsa) THAT YtcelhondifaloaaDoorProg.lean LOADS. Nothing in Lean hashes anything: it is a label: what it is worth is what the hold of that sum in a sandbox is worth. -/
noncomputable def Tryd.pinned : Pinned := { name := "ytcelhondifaloaadoor", sum := "c45e2dcfacf45389b459fa19bbb0110e355a42b775ab0c9f370b5c52bd3d7739", checked := Tryd.checked }
namespace Rows
def none {H : Type} : Left H := { results := [], args := [] }

/- WHAT THE LISTED PACKAGE-LEVEL VARIABLES READ AS WHEN THE CALL BEGINS. Each datum BY PROGRAM (the guide's laid-datum.mjs) off the statement by which the dump's own 'gosem.cut.vars' lays the variable. In a bare row this is a premise. The card (YtcelhondifaloaaDoorCards.lean) ties it to the program's text. -/
def laid_pendentive_mask_wides {H : Type} : DataW H := .agg [.agg [.lit (.int .u8 126), .lit (.int .i64 2), .lit (.int .u64 126), .lit (.int .u64 65535)], .agg [.lit (.int .u8 127), .lit (.int .i64 8), .lit (.int .u64 65536), .lit (.int .u64 9223372036854775807)]]

/-- 'pendentivelaw09.FramePuts': WHATEVER THE INPUT: true; the input reads as it did. -/
def framePutsSpec : ChangeSpec := { name := "framePuts", fn := fun _ => fun
  | [d1, d2, d3] => { results := [.lit (.bool true)], args := [d1, d2, d3] }
  | _ => none }
def framePutsRow : OpenClaim := { program := "ytcelhondifaloaadoor", sum := "c45e2dcfacf45389b459fa19bbb0110e355a42b775ab0c9f370b5c52bd3d7739", func := "pendentive/pendentivelaw09.FramePuts", spec := "framePuts", named := ["pendentive/mask.wides"], apart := false, laid := [("pendentive/mask.wides", laid_pendentive_mask_wides)] }
def FramePutsSaid : Prop := framePutsRow.holds Tryd.pinned (OpenSpec.ofChange framePutsSpec)

/-- ITS FALSE NEIGHBOUR: 'it returns false'. Refute it at one input. -/
def framePutsWrong : ChangeSpec := { name := "framePuts", fn := fun _ => fun
  | [d1, d2, d3] => { results := [.lit (.bool false)], args := [d1, d2, d3] }
  | _ => none }
def FramePutsWrongFalsely : Prop := framePutsRow.holds Tryd.pinned (OpenSpec.ofChange framePutsWrong)

/-- 'pendentivelaw09.FrameGets': WHATEVER THE INPUT: true; the input reads as it did. -/
def frameGetsSpec : ChangeSpec := { name := "frameGets", fn := fun _ => fun
  | [d1, d2] => { results := [.lit (.bool true)], args := [d1, d2] }
  | _ => none }
def frameGetsRow : OpenClaim := { program := "ytcelhondifaloaadoor", sum := "c45e2dcfacf45389b459fa19bbb0110e355a42b775ab0c9f370b5c52bd3d7739", func := "pendentive/pendentivelaw09.FrameGets", spec := "frameGets", named := ["pendentive/mask.wides"], apart := false, laid := [("pendentive/mask.wides", laid_pendentive_mask_wides)] }
def FrameGetsSaid : Prop := frameGetsRow.holds Tryd.pinned (OpenSpec.ofChange frameGetsSpec)

/-- ITS FALSE NEIGHBOUR: 'it returns false'. Refute it at one input. -/
def frameGetsWrong : ChangeSpec := { name := "frameGets", fn := fun _ => fun
  | [d1, d2] => { results := [.lit (.bool false)], args := [d1, d2] }
  | _ => none }
def FrameGetsWrongFalsely : Prop := frameGetsRow.holds Tryd.pinned (OpenSpec.ofChange frameGetsWrong)

/-- 'pendentivelaw09.FrameSoon': WHATEVER THE INPUT: true; the input reads as it did. -/
def frameSoonSpec : ChangeSpec := { name := "frameSoon", fn := fun _ => fun
  | [d1, d2] => { results := [.lit (.bool true)], args := [d1, d2] }
  | _ => none }
def frameSoonRow : OpenClaim := { program := "ytcelhondifaloaadoor", sum := "c45e2dcfacf45389b459fa19bbb0110e355a42b775ab0c9f370b5c52bd3d7739", func := "pendentive/pendentivelaw09.FrameSoon", spec := "frameSoon", named := ["pendentive/mask.wides"], apart := false, laid := [("pendentive/mask.wides", laid_pendentive_mask_wides)] }
def FrameSoonSaid : Prop := frameSoonRow.holds Tryd.pinned (OpenSpec.ofChange frameSoonSpec)

/-- ITS FALSE NEIGHBOUR: 'it returns false'. Refute it at one input. -/
def frameSoonWrong : ChangeSpec := { name := "frameSoon", fn := fun _ => fun
  | [d1, d2] => { results := [.lit (.bool false)], args := [d1, d2] }
  | _ => none }
def FrameSoonWrongFalsely : Prop := frameSoonRow.holds Tryd.pinned (OpenSpec.ofChange frameSoonWrong)

/-- 'pendentivelaw09.FrameBack': WHATEVER THE INPUT: true; the input reads as it did. -/
def frameBackSpec : ChangeSpec := { name := "frameBack", fn := fun _ => fun
  | [d] => { results := [.lit (.bool true)], args := [d] }
  | _ => none }
def frameBackRow : OpenClaim := { program := "ytcelhondifaloaadoor", sum := "c45e2dcfacf45389b459fa19bbb0110e355a42b775ab0c9f370b5c52bd3d7739", func := "pendentive/pendentivelaw09.FrameBack", spec := "frameBack", named := ["pendentive/mask.wides"], apart := false, laid := [("pendentive/mask.wides", laid_pendentive_mask_wides)] }
def FrameBackSaid : Prop := frameBackRow.holds Tryd.pinned (OpenSpec.ofChange frameBackSpec)

/-- ITS FALSE NEIGHBOUR: 'it returns false'. Refute it at one input. -/
def frameBackWrong : ChangeSpec := { name := "frameBack", fn := fun _ => fun
  | [d] => { results := [.lit (.bool false)], args := [d] }
  | _ => none }
def FrameBackWrongFalsely : Prop := frameBackRow.holds Tryd.pinned (OpenSpec.ofChange frameBackWrong)

/-- 'pendentivelaw09.FrameMasks': WHATEVER THE INPUT: true; the input reads as it did. -/
def frameMasksSpec : ChangeSpec := { name := "frameMasks", fn := fun _ => fun
  | [d1, d2] => { results := [.lit (.bool true)], args := [d1, d2] }
  | _ => none }
def frameMasksRow : OpenClaim := { program := "ytcelhondifaloaadoor", sum := "c45e2dcfacf45389b459fa19bbb0110e355a42b775ab0c9f370b5c52bd3d7739", func := "pendentive/pendentivelaw09.FrameMasks", spec := "frameMasks", named := ["pendentive/mask.wides"], apart := false, laid := [("pendentive/mask.wides", laid_pendentive_mask_wides)] }
def FrameMasksSaid : Prop := frameMasksRow.holds Tryd.pinned (OpenSpec.ofChange frameMasksSpec)

/-- ITS FALSE NEIGHBOUR: 'it returns false'. Refute it at one input. -/
def frameMasksWrong : ChangeSpec := { name := "frameMasks", fn := fun _ => fun
  | [d1, d2] => { results := [.lit (.bool false)], args := [d1, d2] }
  | _ => none }
def FrameMasksWrongFalsely : Prop := frameMasksRow.holds Tryd.pinned (OpenSpec.ofChange frameMasksWrong)

/-- 'pendentivelaw09.FrameTwo': WHATEVER THE INPUT: true; the input reads as it did. -/
def frameTwoSpec : ChangeSpec := { name := "frameTwo", fn := fun _ => fun
  | [d1, d2] => { results := [.lit (.bool true)], args := [d1, d2] }
  | _ => none }
def frameTwoRow : OpenClaim := { program := "ytcelhondifaloaadoor", sum := "c45e2dcfacf45389b459fa19bbb0110e355a42b775ab0c9f370b5c52bd3d7739", func := "pendentive/pendentivelaw09.FrameTwo", spec := "frameTwo", named := ["pendentive/mask.wides"], apart := false, laid := [("pendentive/mask.wides", laid_pendentive_mask_wides)] }
def FrameTwoSaid : Prop := frameTwoRow.holds Tryd.pinned (OpenSpec.ofChange frameTwoSpec)

/-- ITS FALSE NEIGHBOUR: 'it returns false'. Refute it at one input. -/
def frameTwoWrong : ChangeSpec := { name := "frameTwo", fn := fun _ => fun
  | [d1, d2] => { results := [.lit (.bool false)], args := [d1, d2] }
  | _ => none }
def FrameTwoWrongFalsely : Prop := frameTwoRow.holds Tryd.pinned (OpenSpec.ofChange frameTwoWrong)

/-- 'pendentivelaw09.FrameOver': WHATEVER THE INPUT: true; the input reads as it did. -/
def frameOverSpec : ChangeSpec := { name := "frameOver", fn := fun _ => fun
  | [d1, d2] => { results := [.lit (.bool true)], args := [d1, d2] }
  | _ => none }
def frameOverRow : OpenClaim := { program := "ytcelhondifaloaadoor", sum := "c45e2dcfacf45389b459fa19bbb0110e355a42b775ab0c9f370b5c52bd3d7739", func := "pendentive/pendentivelaw09.FrameOver", spec := "frameOver", named := ["pendentive/mask.wides"], apart := false, laid := [("pendentive/mask.wides", laid_pendentive_mask_wides)] }
def FrameOverSaid : Prop := frameOverRow.holds Tryd.pinned (OpenSpec.ofChange frameOverSpec)

/-- ITS FALSE NEIGHBOUR: 'it returns false'. Refute it at one input. -/
def frameOverWrong : ChangeSpec := { name := "frameOver", fn := fun _ => fun
  | [d1, d2] => { results := [.lit (.bool false)], args := [d1, d2] }
  | _ => none }
def FrameOverWrongFalsely : Prop := frameOverRow.holds Tryd.pinned (OpenSpec.ofChange frameOverWrong)

/- THE SECOND FORM. 'bulk': how many values and letters a reading holds, each counted each time it is reached (what is shared counts as often as it is met; a slice's spare places count too). A statement '..UptoSaid' is the law's where the arguments, and the package variables that the reading takes, are together of bulk at most 1048576: NARROWER than '..Said'. Prove '..Said' where nothing that the law and all that it calls make is longer than what came in: it says more and counts as full. Else prove '..UptoSaid'. A law counts once. -/
mutual
def uptoBulk {H : Type} : DataW H → Nat
  | .lit (.string bytes) => bytes.length + 1
  | .lit _ => 1
  | .nil => 1
  | .ptr d => uptoBulk d + 1
  | .slice elems spare => uptoBulkAll elems + uptoBulkAll spare + 1
  | .agg parts => uptoBulkAll parts + 1
  | .iface _ d => uptoBulk d + 1
  | .map entries => uptoBulkEntries entries + 1
  | .held _ => 1
def uptoBulkAll {H : Type} : List (DataW H) → Nat
  | [] => 0
  | d :: r => uptoBulk d + uptoBulkAll r
def uptoBulkEntries {H : Type} : List (Lit × DataW H) → Nat
  | [] => 0
  | x :: r => uptoBulkEntry x + uptoBulkEntries r
def uptoBulkEntry {H : Type} : Lit × DataW H → Nat
  | (.string bytes, d) => bytes.length + uptoBulk d + 1
  | (_, d) => uptoBulk d + 1
 end
def uptoSmall : (H : Type) → List (DataW H) → Bool := fun _ ds => decide (uptoBulkAll ds ≤ 1048576)
def OpenSpec.upto (s : _root_.Go.ChangeSpec) : _root_.Go.OpenSpec := { _root_.Go.OpenSpec.ofChange s with cond := some uptoSmall }

/-- 'pendentivelaw09.FramePuts', WHERE WHAT IT READS IS OF BULK AT MOST 1048576: true; the input reads as it did. -/
def framePutsUptoRow : OpenClaim := { program := "ytcelhondifaloaadoor", sum := "c45e2dcfacf45389b459fa19bbb0110e355a42b775ab0c9f370b5c52bd3d7739", func := "pendentive/pendentivelaw09.FramePuts", spec := "framePuts", named := ["pendentive/mask.wides"], apart := false, laid := [("pendentive/mask.wides", laid_pendentive_mask_wides)], narrowed := true }
def FramePutsUptoSaid : Prop := framePutsUptoRow.holds Tryd.pinned (OpenSpec.upto framePutsSpec)

/-- 'pendentivelaw09.FrameGets', WHERE WHAT IT READS IS OF BULK AT MOST 1048576: true; the input reads as it did. -/
def frameGetsUptoRow : OpenClaim := { program := "ytcelhondifaloaadoor", sum := "c45e2dcfacf45389b459fa19bbb0110e355a42b775ab0c9f370b5c52bd3d7739", func := "pendentive/pendentivelaw09.FrameGets", spec := "frameGets", named := ["pendentive/mask.wides"], apart := false, laid := [("pendentive/mask.wides", laid_pendentive_mask_wides)], narrowed := true }
def FrameGetsUptoSaid : Prop := frameGetsUptoRow.holds Tryd.pinned (OpenSpec.upto frameGetsSpec)

/-- 'pendentivelaw09.FrameSoon', WHERE WHAT IT READS IS OF BULK AT MOST 1048576: true; the input reads as it did. -/
def frameSoonUptoRow : OpenClaim := { program := "ytcelhondifaloaadoor", sum := "c45e2dcfacf45389b459fa19bbb0110e355a42b775ab0c9f370b5c52bd3d7739", func := "pendentive/pendentivelaw09.FrameSoon", spec := "frameSoon", named := ["pendentive/mask.wides"], apart := false, laid := [("pendentive/mask.wides", laid_pendentive_mask_wides)], narrowed := true }
def FrameSoonUptoSaid : Prop := frameSoonUptoRow.holds Tryd.pinned (OpenSpec.upto frameSoonSpec)

/-- 'pendentivelaw09.FrameBack', WHERE WHAT IT READS IS OF BULK AT MOST 1048576: true; the input reads as it did. -/
def frameBackUptoRow : OpenClaim := { program := "ytcelhondifaloaadoor", sum := "c45e2dcfacf45389b459fa19bbb0110e355a42b775ab0c9f370b5c52bd3d7739", func := "pendentive/pendentivelaw09.FrameBack", spec := "frameBack", named := ["pendentive/mask.wides"], apart := false, laid := [("pendentive/mask.wides", laid_pendentive_mask_wides)], narrowed := true }
def FrameBackUptoSaid : Prop := frameBackUptoRow.holds Tryd.pinned (OpenSpec.upto frameBackSpec)

/-- 'pendentivelaw09.FrameMasks', WHERE WHAT IT READS IS OF BULK AT MOST 1048576: true; the input reads as it did. -/
def frameMasksUptoRow : OpenClaim := { program := "ytcelhondifaloaadoor", sum := "c45e2dcfacf45389b459fa19bbb0110e355a42b775ab0c9f370b5c52bd3d7739", func := "pendentive/pendentivelaw09.FrameMasks", spec := "frameMasks", named := ["pendentive/mask.wides"], apart := false, laid := [("pendentive/mask.wides", laid_pendentive_mask_wides)], narrowed := true }
def FrameMasksUptoSaid : Prop := frameMasksUptoRow.holds Tryd.pinned (OpenSpec.upto frameMasksSpec)

/-- 'pendentivelaw09.FrameTwo', WHERE WHAT IT READS IS OF BULK AT MOST 1048576: true; the input reads as it did. -/
def frameTwoUptoRow : OpenClaim := { program := "ytcelhondifaloaadoor", sum := "c45e2dcfacf45389b459fa19bbb0110e355a42b775ab0c9f370b5c52bd3d7739", func := "pendentive/pendentivelaw09.FrameTwo", spec := "frameTwo", named := ["pendentive/mask.wides"], apart := false, laid := [("pendentive/mask.wides", laid_pendentive_mask_wides)], narrowed := true }
def FrameTwoUptoSaid : Prop := frameTwoUptoRow.holds Tryd.pinned (OpenSpec.upto frameTwoSpec)

/-- 'pendentivelaw09.FrameOver', WHERE WHAT IT READS IS OF BULK AT MOST 1048576: true; the input reads as it did. -/
def frameOverUptoRow : OpenClaim := { program := "ytcelhondifaloaadoor", sum := "c45e2dcfacf45389b459fa19bbb0110e355a42b775ab0c9f370b5c52bd3d7739", func := "pendentive/pendentivelaw09.FrameOver", spec := "frameOver", named := ["pendentive/mask.wides"], apart := false, laid := [("pendentive/mask.wides", laid_pendentive_mask_wides)], narrowed := true }
def FrameOverUptoSaid : Prop := frameOverUptoRow.holds Tryd.pinned (OpenSpec.upto frameOverSpec)

end Rows
end Go.Proofs.YtcelhondifaloaaDoor
