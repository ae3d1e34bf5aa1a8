/-
  NARROWER THAN 'FOR EVERY INPUT', by the rows' own cells (each row's printed sentence says how): CutFrames: laid · CutJoins: laid · CutThrough: laid · CutCounts: laid · CutMasks: laid · CutSizes: laid · CutBytes: laid · CutOnce: laid.
  DERIVED. THE GIVEN ROWS OF THIS SEAT. 8 by the template 'for every input the law returns true; each argument reads behind the call as it read before'; 0 by the template 'total and deterministic' (their statements: YtimndpmbgfoofaaDoorTotals.lean).
  GIVEN WITH THE SEED: the statements are not yours to turn. If you find one false, say at which input.
  Laid BY PROGRAM, IN A SANDBOX (cutbox-rows.mjs): the forced cells as the released guide's own fill.sh prints them over the translation 8902d2c7c14548b8… (all of the seat's roots in one cut). By AI agents, Wed Nov 11 2026. No macro, syntax, notation, axiom, sorry.
-/
import Derived.Test.YtimndpmbgfoofaaDoorChecked
import GoSem.Claim
import GoSem.ClaimJoined
import GoSem.ClaimMapViews
import Derived.JoinedTies
import Derived.KernelRfl
namespace Go.Proofs.YtimndpmbgfoofaaDoor
/- THE CELL 'sum', in the pinned program and in every row, IS THE sha256 OF THE DUMP (.gsa) THAT YtimndpmbgfoofaaDoorProg.lean LOADS. Nothing in Lean hashes anything: it is a label: what it is worth is what the hold of that sum in a sandbox is worth. -/
noncomputable def Tryd.pinned : Pinned := { name := "ytimndpmbgfoofaadoor", sum := "8902d2c7c14548b88e0d6970f321511eb6d4ea07f01f299242271acf20ac11d7", checked := Tryd.checked }
namespace Rows
def none {H : Type} : Left H := { results := [], args := [] }

/- WHAT THE LISTED PACKAGE-LEVEL VARIABLES READ AS WHEN THE CALL BEGINS. Each datum BY PROGRAM (the guide's laid-datum.mjs) off the statement by which the dump's own 'gosem.cut.vars' lays the variable. In a bare row this is a premise. The card (YtimndpmbgfoofaaDoorCards.lean) ties it to the program's text. -/
def laid_pendentive_mask_wides {H : Type} : DataW H := .agg [.agg [.lit (.int .u8 126), .lit (.int .i64 2), .lit (.int .u64 126), .lit (.int .u64 65535)], .agg [.lit (.int .u8 127), .lit (.int .i64 8), .lit (.int .u64 65536), .lit (.int .u64 9223372036854775807)]]
def laid_pendentive_utf_starts {H : Type} : DataW H := .agg [.agg [.agg [.lit (.int .u8 0), .lit (.int .u8 127)], .lit (.int .i64 0), .agg [.lit (.int .u8 0), .lit (.int .u8 0)]], .agg [.agg [.lit (.int .u8 194), .lit (.int .u8 223)], .lit (.int .i64 1), .agg [.lit (.int .u8 128), .lit (.int .u8 191)]], .agg [.agg [.lit (.int .u8 224), .lit (.int .u8 224)], .lit (.int .i64 2), .agg [.lit (.int .u8 160), .lit (.int .u8 191)]], .agg [.agg [.lit (.int .u8 225), .lit (.int .u8 236)], .lit (.int .i64 2), .agg [.lit (.int .u8 128), .lit (.int .u8 191)]], .agg [.agg [.lit (.int .u8 237), .lit (.int .u8 237)], .lit (.int .i64 2), .agg [.lit (.int .u8 128), .lit (.int .u8 159)]], .agg [.agg [.lit (.int .u8 238), .lit (.int .u8 239)], .lit (.int .i64 2), .agg [.lit (.int .u8 128), .lit (.int .u8 191)]], .agg [.agg [.lit (.int .u8 240), .lit (.int .u8 240)], .lit (.int .i64 3), .agg [.lit (.int .u8 144), .lit (.int .u8 191)]], .agg [.agg [.lit (.int .u8 241), .lit (.int .u8 243)], .lit (.int .i64 3), .agg [.lit (.int .u8 128), .lit (.int .u8 191)]], .agg [.agg [.lit (.int .u8 244), .lit (.int .u8 244)], .lit (.int .i64 3), .agg [.lit (.int .u8 128), .lit (.int .u8 143)]]]

/-- 'pendentivelaw13.CutFrames': WHATEVER THE INPUT: true; the input reads as it did. -/
def cutFramesSpec : ChangeSpec := { name := "cutFrames", fn := fun _ => fun
  | [d1, d2, d3] => { results := [.lit (.bool true)], args := [d1, d2, d3] }
  | _ => none }
def cutFramesRow : OpenClaim := { program := "ytimndpmbgfoofaadoor", sum := "8902d2c7c14548b88e0d6970f321511eb6d4ea07f01f299242271acf20ac11d7", func := "pendentive/pendentivelaw13.CutFrames", spec := "cutFrames", unfollowed := true, recurses := true, named := ["pendentive/mask.wides"], apart := false, laid := [("pendentive/mask.wides", laid_pendentive_mask_wides)] }
def CutFramesSaid : Prop := cutFramesRow.holds Tryd.pinned (OpenSpec.ofChange cutFramesSpec)

/-- ITS FALSE NEIGHBOUR: 'it returns false'. Refute it at one input. -/
def cutFramesWrong : ChangeSpec := { name := "cutFrames", fn := fun _ => fun
  | [d1, d2, d3] => { results := [.lit (.bool false)], args := [d1, d2, d3] }
  | _ => none }
def CutFramesWrongFalsely : Prop := cutFramesRow.holds Tryd.pinned (OpenSpec.ofChange cutFramesWrong)

/-- 'pendentivelaw13.CutJoins': WHATEVER THE INPUT: true; the input reads as it did. -/
def cutJoinsSpec : ChangeSpec := { name := "cutJoins", fn := fun _ => fun
  | [d1, d2] => { results := [.lit (.bool true)], args := [d1, d2] }
  | _ => none }
def cutJoinsRow : OpenClaim := { program := "ytimndpmbgfoofaadoor", sum := "8902d2c7c14548b88e0d6970f321511eb6d4ea07f01f299242271acf20ac11d7", func := "pendentive/pendentivelaw13.CutJoins", spec := "cutJoins", unfollowed := true, recurses := true, named := ["pendentive/mask.wides"], apart := false, laid := [("pendentive/mask.wides", laid_pendentive_mask_wides)] }
def CutJoinsSaid : Prop := cutJoinsRow.holds Tryd.pinned (OpenSpec.ofChange cutJoinsSpec)

/-- ITS FALSE NEIGHBOUR: 'it returns false'. Refute it at one input. -/
def cutJoinsWrong : ChangeSpec := { name := "cutJoins", fn := fun _ => fun
  | [d1, d2] => { results := [.lit (.bool false)], args := [d1, d2] }
  | _ => none }
def CutJoinsWrongFalsely : Prop := cutJoinsRow.holds Tryd.pinned (OpenSpec.ofChange cutJoinsWrong)

/-- 'pendentivelaw13.CutThrough': WHATEVER THE INPUT: true; the input reads as it did. -/
def cutThroughSpec : ChangeSpec := { name := "cutThrough", fn := fun _ => fun
  | [d1, d2, d3, d4, d5] => { results := [.lit (.bool true)], args := [d1, d2, d3, d4, d5] }
  | _ => none }
def cutThroughRow : OpenClaim := { program := "ytimndpmbgfoofaadoor", sum := "8902d2c7c14548b88e0d6970f321511eb6d4ea07f01f299242271acf20ac11d7", func := "pendentive/pendentivelaw13.CutThrough", spec := "cutThrough", unfollowed := true, recurses := true, named := ["pendentive/mask.wides", "pendentive/utf.starts"], apart := false, laid := [("pendentive/mask.wides", laid_pendentive_mask_wides), ("pendentive/utf.starts", laid_pendentive_utf_starts)] }
def CutThroughSaid : Prop := cutThroughRow.holds Tryd.pinned (OpenSpec.ofChange cutThroughSpec)

/-- ITS FALSE NEIGHBOUR: 'it returns false'. Refute it at one input. -/
def cutThroughWrong : ChangeSpec := { name := "cutThrough", fn := fun _ => fun
  | [d1, d2, d3, d4, d5] => { results := [.lit (.bool false)], args := [d1, d2, d3, d4, d5] }
  | _ => none }
def CutThroughWrongFalsely : Prop := cutThroughRow.holds Tryd.pinned (OpenSpec.ofChange cutThroughWrong)

/-- 'pendentivelaw13.CutCounts': WHATEVER THE INPUT: true; the input reads as it did. -/
def cutCountsSpec : ChangeSpec := { name := "cutCounts", fn := fun _ => fun
  | [d1, d2] => { results := [.lit (.bool true)], args := [d1, d2] }
  | _ => none }
def cutCountsRow : OpenClaim := { program := "ytimndpmbgfoofaadoor", sum := "8902d2c7c14548b88e0d6970f321511eb6d4ea07f01f299242271acf20ac11d7", func := "pendentive/pendentivelaw13.CutCounts", spec := "cutCounts", unfollowed := true, recurses := true, named := ["pendentive/mask.wides"], apart := false, laid := [("pendentive/mask.wides", laid_pendentive_mask_wides)] }
def CutCountsSaid : Prop := cutCountsRow.holds Tryd.pinned (OpenSpec.ofChange cutCountsSpec)

/-- ITS FALSE NEIGHBOUR: 'it returns false'. Refute it at one input. -/
def cutCountsWrong : ChangeSpec := { name := "cutCounts", fn := fun _ => fun
  | [d1, d2] => { results := [.lit (.bool false)], args := [d1, d2] }
  | _ => none }
def CutCountsWrongFalsely : Prop := cutCountsRow.holds Tryd.pinned (OpenSpec.ofChange cutCountsWrong)

/-- 'pendentivelaw13.CutMasks': WHATEVER THE INPUT: true; the input reads as it did. -/
def cutMasksSpec : ChangeSpec := { name := "cutMasks", fn := fun _ => fun
  | [d1, d2] => { results := [.lit (.bool true)], args := [d1, d2] }
  | _ => none }
def cutMasksRow : OpenClaim := { program := "ytimndpmbgfoofaadoor", sum := "8902d2c7c14548b88e0d6970f321511eb6d4ea07f01f299242271acf20ac11d7", func := "pendentive/pendentivelaw13.CutMasks", spec := "cutMasks", unfollowed := true, recurses := true, named := ["pendentive/mask.wides"], apart := false, laid := [("pendentive/mask.wides", laid_pendentive_mask_wides)] }
def CutMasksSaid : Prop := cutMasksRow.holds Tryd.pinned (OpenSpec.ofChange cutMasksSpec)

/-- ITS FALSE NEIGHBOUR: 'it returns false'. Refute it at one input. -/
def cutMasksWrong : ChangeSpec := { name := "cutMasks", fn := fun _ => fun
  | [d1, d2] => { results := [.lit (.bool false)], args := [d1, d2] }
  | _ => none }
def CutMasksWrongFalsely : Prop := cutMasksRow.holds Tryd.pinned (OpenSpec.ofChange cutMasksWrong)

/-- 'pendentivelaw13.CutSizes': WHATEVER THE INPUT: true; the input reads as it did. -/
def cutSizesSpec : ChangeSpec := { name := "cutSizes", fn := fun _ => fun
  | [d1, d2] => { results := [.lit (.bool true)], args := [d1, d2] }
  | _ => none }
def cutSizesRow : OpenClaim := { program := "ytimndpmbgfoofaadoor", sum := "8902d2c7c14548b88e0d6970f321511eb6d4ea07f01f299242271acf20ac11d7", func := "pendentive/pendentivelaw13.CutSizes", spec := "cutSizes", unfollowed := true, recurses := true, named := ["pendentive/mask.wides"], apart := false, laid := [("pendentive/mask.wides", laid_pendentive_mask_wides)] }
def CutSizesSaid : Prop := cutSizesRow.holds Tryd.pinned (OpenSpec.ofChange cutSizesSpec)

/-- ITS FALSE NEIGHBOUR: 'it returns false'. Refute it at one input. -/
def cutSizesWrong : ChangeSpec := { name := "cutSizes", fn := fun _ => fun
  | [d1, d2] => { results := [.lit (.bool false)], args := [d1, d2] }
  | _ => none }
def CutSizesWrongFalsely : Prop := cutSizesRow.holds Tryd.pinned (OpenSpec.ofChange cutSizesWrong)

/-- 'pendentivelaw13.CutBytes': WHATEVER THE INPUT: true; the input reads as it did. -/
def cutBytesSpec : ChangeSpec := { name := "cutBytes", fn := fun _ => fun
  | [d1, d2] => { results := [.lit (.bool true)], args := [d1, d2] }
  | _ => none }
def cutBytesRow : OpenClaim := { program := "ytimndpmbgfoofaadoor", sum := "8902d2c7c14548b88e0d6970f321511eb6d4ea07f01f299242271acf20ac11d7", func := "pendentive/pendentivelaw13.CutBytes", spec := "cutBytes", unfollowed := true, recurses := true, named := ["pendentive/mask.wides"], apart := false, laid := [("pendentive/mask.wides", laid_pendentive_mask_wides)] }
def CutBytesSaid : Prop := cutBytesRow.holds Tryd.pinned (OpenSpec.ofChange cutBytesSpec)

/-- ITS FALSE NEIGHBOUR: 'it returns false'. Refute it at one input. -/
def cutBytesWrong : ChangeSpec := { name := "cutBytes", fn := fun _ => fun
  | [d1, d2] => { results := [.lit (.bool false)], args := [d1, d2] }
  | _ => none }
def CutBytesWrongFalsely : Prop := cutBytesRow.holds Tryd.pinned (OpenSpec.ofChange cutBytesWrong)

/-- 'pendentivelaw13.CutOnce': WHATEVER THE INPUT: true; the input reads as it did. -/
def cutOnceSpec : ChangeSpec := { name := "cutOnce", fn := fun _ => fun
  | [d1, d2, d3] => { results := [.lit (.bool true)], args := [d1, d2, d3] }
  | _ => none }
def cutOnceRow : OpenClaim := { program := "ytimndpmbgfoofaadoor", sum := "8902d2c7c14548b88e0d6970f321511eb6d4ea07f01f299242271acf20ac11d7", func := "pendentive/pendentivelaw13.CutOnce", spec := "cutOnce", unfollowed := true, recurses := true, named := ["pendentive/mask.wides"], apart := false, laid := [("pendentive/mask.wides", laid_pendentive_mask_wides)] }
def CutOnceSaid : Prop := cutOnceRow.holds Tryd.pinned (OpenSpec.ofChange cutOnceSpec)

/-- ITS FALSE NEIGHBOUR: 'it returns false'. Refute it at one input. -/
def cutOnceWrong : ChangeSpec := { name := "cutOnce", fn := fun _ => fun
  | [d1, d2, d3] => { results := [.lit (.bool false)], args := [d1, d2, d3] }
  | _ => none }
def CutOnceWrongFalsely : Prop := cutOnceRow.holds Tryd.pinned (OpenSpec.ofChange cutOnceWrong)

/- THE SECOND FORM. 'bulk': how many values and letters a reading holds, each counted each time it is reached (what is shared counts as often as it is met; a slice's spare places count too). A statement '..UptoSaid' is the law's where the arguments, and the package variables that the reading takes, are together of bulk at most 1048576: NARROWER than '..Said'. Prove '..Said' where nothing that the law and all that it calls make is longer than what came in: it says more and counts as full. Else prove '..UptoSaid'. A law counts once. -/
mutual
def uptoBulk {H : Type} : DataW H → Nat
  | .lit (.string bytes) => bytes.length + 1
  | .lit _ => 1
  | .nil => 1
  | .ptr d => uptoBulk d + 1
  | .slice elems spare => uptoBulkAll elems + uptoBulkAll spare + 1
  | .agg parts => uptoBulkAll parts + 1
  | .iface _ d => uptoBulk d + 1
  | .map entries => uptoBulkEntries entries + 1
  | .held _ => 1
def uptoBulkAll {H : Type} : List (DataW H) → Nat
  | [] => 0
  | d :: r => uptoBulk d + uptoBulkAll r
def uptoBulkEntries {H : Type} : List (Lit × DataW H) → Nat
  | [] => 0
  | x :: r => uptoBulkEntry x + uptoBulkEntries r
def uptoBulkEntry {H : Type} : Lit × DataW H → Nat
  | (.string bytes, d) => bytes.length + uptoBulk d + 1
  | (_, d) => uptoBulk d + 1
 end
def uptoSmall : (H : Type) → List (DataW H) → Bool := fun _ ds => decide (uptoBulkAll ds ≤ 1048576)
def OpenSpec.upto (s : _root_.Go.ChangeSpec) : _root_.Go.OpenSpec := { _root_.Go.OpenSpec.ofChange s with cond := some uptoSmall }

/-- 'pendentivelaw13.CutFrames', WHERE WHAT IT READS IS OF BULK AT MOST 1048576: true; the input reads as it did. -/
def cutFramesUptoRow : OpenClaim := { program := "ytimndpmbgfoofaadoor", sum := "8902d2c7c14548b88e0d6970f321511eb6d4ea07f01f299242271acf20ac11d7", func := "pendentive/pendentivelaw13.CutFrames", spec := "cutFrames", unfollowed := true, recurses := true, named := ["pendentive/mask.wides"], apart := false, laid := [("pendentive/mask.wides", laid_pendentive_mask_wides)], narrowed := true }
def CutFramesUptoSaid : Prop := cutFramesUptoRow.holds Tryd.pinned (OpenSpec.upto cutFramesSpec)

/-- 'pendentivelaw13.CutJoins', WHERE WHAT IT READS IS OF BULK AT MOST 1048576: true; the input reads as it did. -/
def cutJoinsUptoRow : OpenClaim := { program := "ytimndpmbgfoofaadoor", sum := "8902d2c7c14548b88e0d6970f321511eb6d4ea07f01f299242271acf20ac11d7", func := "pendentive/pendentivelaw13.CutJoins", spec := "cutJoins", unfollowed := true, recurses := true, named := ["pendentive/mask.wides"], apart := false, laid := [("pendentive/mask.wides", laid_pendentive_mask_wides)], narrowed := true }
def CutJoinsUptoSaid : Prop := cutJoinsUptoRow.holds Tryd.pinned (OpenSpec.upto cutJoinsSpec)

/-- 'pendentivelaw13.CutThrough', WHERE WHAT IT READS IS OF BULK AT MOST 1048576: true; the input reads as it did. -/
def cutThroughUptoRow : OpenClaim := { program := "ytimndpmbgfoofaadoor", sum := "8902d2c7c14548b88e0d6970f321511eb6d4ea07f01f299242271acf20ac11d7", func := "pendentive/pendentivelaw13.CutThrough", spec := "cutThrough", unfollowed := true, recurses := true, named := ["pendentive/mask.wides", "pendentive/utf.starts"], apart := false, laid := [("pendentive/mask.wides", laid_pendentive_mask_wides), ("pendentive/utf.starts", laid_pendentive_utf_starts)], narrowed := true }
def CutThroughUptoSaid : Prop := cutThroughUptoRow.holds Tryd.pinned (OpenSpec.upto cutThroughSpec)

/-- 'pendentivelaw13.CutCounts', WHERE WHAT IT READS IS OF BULK AT MOST 1048576: true; the input reads as it did. -/
def cutCountsUptoRow : OpenClaim := { program := "ytimndpmbgfoofaadoor", sum := "8902d2c7c14548b88e0d6970f321511eb6d4ea07f01f299242271acf20ac11d7", func := "pendentive/pendentivelaw13.CutCounts", spec := "cutCounts", unfollowed := true, recurses := true, named := ["pendentive/mask.wides"], apart := false, laid := [("pendentive/mask.wides", laid_pendentive_mask_wides)], narrowed := true }
def CutCountsUptoSaid : Prop := cutCountsUptoRow.holds Tryd.pinned (OpenSpec.upto cutCountsSpec)

/-- 'pendentivelaw13.CutMasks', WHERE WHAT IT READS IS OF BULK AT MOST 1048576: true; the input reads as it did. -/
def cutMasksUptoRow : OpenClaim := { program := "ytimndpmbgfoofaadoor", sum := "8902d2c7c14548b88e0d6970f321511eb6d4ea07f01f299242271acf20ac11d7", func := "pendentive/pendentivelaw13.CutMasks", spec := "cutMasks", unfollowed := true, recurses := true, named := ["pendentive/mask.wides"], apart := false, laid := [("pendentive/mask.wides", laid_pendentive_mask_wides)], narrowed := true }
def CutMasksUptoSaid : Prop := cutMasksUptoRow.holds Tryd.pinned (OpenSpec.upto cutMasksSpec)

/-- 'pendentivelaw13.CutSizes', WHERE WHAT IT READS IS OF BULK AT MOST 1048576: true; the input reads as it did. -/
def cutSizesUptoRow : OpenClaim := { program := "ytimndpmbgfoofaadoor", sum := "8902d2c7c14548b88e0d6970f321511eb6d4ea07f01f299242271acf20ac11d7", func := "pendentive/pendentivelaw13.CutSizes", spec := "cutSizes", unfollowed := true, recurses := true, named := ["pendentive/mask.wides"], apart := false, laid := [("pendentive/mask.wides", laid_pendentive_mask_wides)], narrowed := true }
def CutSizesUptoSaid : Prop := cutSizesUptoRow.holds Tryd.pinned (OpenSpec.upto cutSizesSpec)

/-- 'pendentivelaw13.CutBytes', WHERE WHAT IT READS IS OF BULK AT MOST 1048576: true; the input reads as it did. -/
def cutBytesUptoRow : OpenClaim := { program := "ytimndpmbgfoofaadoor", sum := "8902d2c7c14548b88e0d6970f321511eb6d4ea07f01f299242271acf20ac11d7", func := "pendentive/pendentivelaw13.CutBytes", spec := "cutBytes", unfollowed := true, recurses := true, named := ["pendentive/mask.wides"], apart := false, laid := [("pendentive/mask.wides", laid_pendentive_mask_wides)], narrowed := true }
def CutBytesUptoSaid : Prop := cutBytesUptoRow.holds Tryd.pinned (OpenSpec.upto cutBytesSpec)

/-- 'pendentivelaw13.CutOnce', WHERE WHAT IT READS IS OF BULK AT MOST 1048576: true; the input reads as it did. -/
def cutOnceUptoRow : OpenClaim := { program := "ytimndpmbgfoofaadoor", sum := "8902d2c7c14548b88e0d6970f321511eb6d4ea07f01f299242271acf20ac11d7", func := "pendentive/pendentivelaw13.CutOnce", spec := "cutOnce", unfollowed := true, recurses := true, named := ["pendentive/mask.wides"], apart := false, laid := [("pendentive/mask.wides", laid_pendentive_mask_wides)], narrowed := true }
def CutOnceUptoSaid : Prop := cutOnceUptoRow.holds Tryd.pinned (OpenSpec.upto cutOnceSpec)

end Rows
end Go.Proofs.YtimndpmbgfoofaaDoor
