/-
  NARROWER THAN 'FOR EVERY INPUT', by the rows' own cells (each row's printed sentence says how): StreamFeeds: laid · StreamCuts: laid · StreamBack: laid · StreamStops: laid · StreamPart: laid · StreamEach: laid.
  DERIVED. THE GIVEN ROWS OF THIS SEAT. 6 by the template 'for every input the law returns true; each argument reads behind the call as it read before'; 0 by the template 'total and deterministic' (their statements: YtlgmgalopdfcaaaDoorTotals.lean).
  GIVEN WITH THE SEED: the statements are not yours to turn. If you find one false, say at which input.
  Laid BY PROGRAM, IN A SANDBOX (cutbox-rows.mjs): the forced cells as the released guide's own fill.sh prints them over the translation b742f532daed16c4… (all of the seat's roots in one cut). By AI agents, Wed Nov 11 2026. No macro, syntax, notation, axiom, sorry.
-/
import Derived.Test.YtlgmgalopdfcaaaDoorChecked
import GoSem.Claim
import GoSem.ClaimJoined
import GoSem.ClaimMapViews
import Derived.JoinedTies
import Derived.KernelRfl
namespace Go.Proofs.YtlgmgalopdfcaaaDoor
/- THE CELL 'sum', in the pinned program and in every row, IS THE sha256 OF THE DUMP (.gsa) THAT YtlgmgalopdfcaaaDoorProg.lean LOADS. Nothing in Lean hashes anything: it is a label: what it is worth is what the hold of that sum in a sandbox is worth. -/
noncomputable def Tryd.pinned : Pinned := { name := "ytlgmgalopdfcaaadoor", sum := "b742f532daed16c4440eec160ed1244a3561d3a87ea9a407d01f4d084ea26c00", checked := Tryd.checked }
namespace Rows
def none {H : Type} : Left H := { results := [], args := [] }

/- WHAT THE LISTED PACKAGE-LEVEL VARIABLES READ AS WHEN THE CALL BEGINS. Each datum BY PROGRAM (the guide's laid-datum.mjs) off the statement by which the dump's own 'gosem.cut.vars' lays the variable. In a bare row this is a premise. The card (YtlgmgalopdfcaaaDoorCards.lean) ties it to the program's text. -/
def laid_pendentive_mask_wides {H : Type} : DataW H := .agg [.agg [.lit (.int .u8 126), .lit (.int .i64 2), .lit (.int .u64 126), .lit (.int .u64 65535)], .agg [.lit (.int .u8 127), .lit (.int .i64 8), .lit (.int .u64 65536), .lit (.int .u64 9223372036854775807)]]

/-- 'pendentivelaw10.StreamFeeds': WHATEVER THE INPUT: true; the input reads as it did. -/
def streamFeedsSpec : ChangeSpec := { name := "streamFeeds", fn := fun _ => fun
  | [d1, d2, d3] => { results := [.lit (.bool true)], args := [d1, d2, d3] }
  | _ => none }
def streamFeedsRow : OpenClaim := { program := "ytlgmgalopdfcaaadoor", sum := "b742f532daed16c4440eec160ed1244a3561d3a87ea9a407d01f4d084ea26c00", func := "pendentive/pendentivelaw10.StreamFeeds", spec := "streamFeeds", unfollowed := true, recurses := true, named := ["pendentive/mask.wides"], apart := false, laid := [("pendentive/mask.wides", laid_pendentive_mask_wides)] }
def StreamFeedsSaid : Prop := streamFeedsRow.holds Tryd.pinned (OpenSpec.ofChange streamFeedsSpec)

/-- ITS FALSE NEIGHBOUR: 'it returns false'. Refute it at one input. -/
def streamFeedsWrong : ChangeSpec := { name := "streamFeeds", fn := fun _ => fun
  | [d1, d2, d3] => { results := [.lit (.bool false)], args := [d1, d2, d3] }
  | _ => none }
def StreamFeedsWrongFalsely : Prop := streamFeedsRow.holds Tryd.pinned (OpenSpec.ofChange streamFeedsWrong)

/-- 'pendentivelaw10.StreamCuts': WHATEVER THE INPUT: true; the input reads as it did. -/
def streamCutsSpec : ChangeSpec := { name := "streamCuts", fn := fun _ => fun
  | [d1, d2, d3] => { results := [.lit (.bool true)], args := [d1, d2, d3] }
  | _ => none }
def streamCutsRow : OpenClaim := { program := "ytlgmgalopdfcaaadoor", sum := "b742f532daed16c4440eec160ed1244a3561d3a87ea9a407d01f4d084ea26c00", func := "pendentive/pendentivelaw10.StreamCuts", spec := "streamCuts", unfollowed := true, recurses := true, named := ["pendentive/mask.wides"], apart := false, laid := [("pendentive/mask.wides", laid_pendentive_mask_wides)] }
def StreamCutsSaid : Prop := streamCutsRow.holds Tryd.pinned (OpenSpec.ofChange streamCutsSpec)

/-- ITS FALSE NEIGHBOUR: 'it returns false'. Refute it at one input. -/
def streamCutsWrong : ChangeSpec := { name := "streamCuts", fn := fun _ => fun
  | [d1, d2, d3] => { results := [.lit (.bool false)], args := [d1, d2, d3] }
  | _ => none }
def StreamCutsWrongFalsely : Prop := streamCutsRow.holds Tryd.pinned (OpenSpec.ofChange streamCutsWrong)

/-- 'pendentivelaw10.StreamBack': WHATEVER THE INPUT: true; the input reads as it did. -/
def streamBackSpec : ChangeSpec := { name := "streamBack", fn := fun _ => fun
  | [d1, d2, d3] => { results := [.lit (.bool true)], args := [d1, d2, d3] }
  | _ => none }
def streamBackRow : OpenClaim := { program := "ytlgmgalopdfcaaadoor", sum := "b742f532daed16c4440eec160ed1244a3561d3a87ea9a407d01f4d084ea26c00", func := "pendentive/pendentivelaw10.StreamBack", spec := "streamBack", unfollowed := true, recurses := true, named := ["pendentive/mask.wides"], apart := false, laid := [("pendentive/mask.wides", laid_pendentive_mask_wides)] }
def StreamBackSaid : Prop := streamBackRow.holds Tryd.pinned (OpenSpec.ofChange streamBackSpec)

/-- ITS FALSE NEIGHBOUR: 'it returns false'. Refute it at one input. -/
def streamBackWrong : ChangeSpec := { name := "streamBack", fn := fun _ => fun
  | [d1, d2, d3] => { results := [.lit (.bool false)], args := [d1, d2, d3] }
  | _ => none }
def StreamBackWrongFalsely : Prop := streamBackRow.holds Tryd.pinned (OpenSpec.ofChange streamBackWrong)

/-- 'pendentivelaw10.StreamStops': WHATEVER THE INPUT: true; the input reads as it did. -/
def streamStopsSpec : ChangeSpec := { name := "streamStops", fn := fun _ => fun
  | [d1, d2, d3] => { results := [.lit (.bool true)], args := [d1, d2, d3] }
  | _ => none }
def streamStopsRow : OpenClaim := { program := "ytlgmgalopdfcaaadoor", sum := "b742f532daed16c4440eec160ed1244a3561d3a87ea9a407d01f4d084ea26c00", func := "pendentive/pendentivelaw10.StreamStops", spec := "streamStops", unfollowed := true, recurses := true, named := ["pendentive/mask.wides"], apart := false, laid := [("pendentive/mask.wides", laid_pendentive_mask_wides)] }
def StreamStopsSaid : Prop := streamStopsRow.holds Tryd.pinned (OpenSpec.ofChange streamStopsSpec)

/-- ITS FALSE NEIGHBOUR: 'it returns false'. Refute it at one input. -/
def streamStopsWrong : ChangeSpec := { name := "streamStops", fn := fun _ => fun
  | [d1, d2, d3] => { results := [.lit (.bool false)], args := [d1, d2, d3] }
  | _ => none }
def StreamStopsWrongFalsely : Prop := streamStopsRow.holds Tryd.pinned (OpenSpec.ofChange streamStopsWrong)

/-- 'pendentivelaw10.StreamPart': WHATEVER THE INPUT: true; the input reads as it did. -/
def streamPartSpec : ChangeSpec := { name := "streamPart", fn := fun _ => fun
  | [d1, d2] => { results := [.lit (.bool true)], args := [d1, d2] }
  | _ => none }
def streamPartRow : OpenClaim := { program := "ytlgmgalopdfcaaadoor", sum := "b742f532daed16c4440eec160ed1244a3561d3a87ea9a407d01f4d084ea26c00", func := "pendentive/pendentivelaw10.StreamPart", spec := "streamPart", unfollowed := true, recurses := true, named := ["pendentive/mask.wides"], apart := false, laid := [("pendentive/mask.wides", laid_pendentive_mask_wides)] }
def StreamPartSaid : Prop := streamPartRow.holds Tryd.pinned (OpenSpec.ofChange streamPartSpec)

/-- ITS FALSE NEIGHBOUR: 'it returns false'. Refute it at one input. -/
def streamPartWrong : ChangeSpec := { name := "streamPart", fn := fun _ => fun
  | [d1, d2] => { results := [.lit (.bool false)], args := [d1, d2] }
  | _ => none }
def StreamPartWrongFalsely : Prop := streamPartRow.holds Tryd.pinned (OpenSpec.ofChange streamPartWrong)

/-- 'pendentivelaw10.StreamEach': WHATEVER THE INPUT: true; the input reads as it did. -/
def streamEachSpec : ChangeSpec := { name := "streamEach", fn := fun _ => fun
  | [d1, d2] => { results := [.lit (.bool true)], args := [d1, d2] }
  | _ => none }
def streamEachRow : OpenClaim := { program := "ytlgmgalopdfcaaadoor", sum := "b742f532daed16c4440eec160ed1244a3561d3a87ea9a407d01f4d084ea26c00", func := "pendentive/pendentivelaw10.StreamEach", spec := "streamEach", unfollowed := true, recurses := true, named := ["pendentive/mask.wides"], apart := false, laid := [("pendentive/mask.wides", laid_pendentive_mask_wides)] }
def StreamEachSaid : Prop := streamEachRow.holds Tryd.pinned (OpenSpec.ofChange streamEachSpec)

/-- ITS FALSE NEIGHBOUR: 'it returns false'. Refute it at one input. -/
def streamEachWrong : ChangeSpec := { name := "streamEach", fn := fun _ => fun
  | [d1, d2] => { results := [.lit (.bool false)], args := [d1, d2] }
  | _ => none }
def StreamEachWrongFalsely : Prop := streamEachRow.holds Tryd.pinned (OpenSpec.ofChange streamEachWrong)

/- THE SECOND FORM. 'bulk': how many values and letters a reading holds, each counted each time it is reached (what is shared counts as often as it is met; a slice's spare places count too). A statement '..UptoSaid' is the law's where the arguments, and the package variables that the reading takes, are together of bulk at most 1048576: NARROWER than '..Said'. Prove '..Said' where nothing that the law and all that it calls make is longer than what came in: it says more and counts as full. Else prove '..UptoSaid'. A law counts once. -/
mutual
def uptoBulk {H : Type} : DataW H → Nat
  | .lit (.string bytes) => bytes.length + 1
  | .lit _ => 1
  | .nil => 1
  | .ptr d => uptoBulk d + 1
  | .slice elems spare => uptoBulkAll elems + uptoBulkAll spare + 1
  | .agg parts => uptoBulkAll parts + 1
  | .iface _ d => uptoBulk d + 1
  | .map entries => uptoBulkEntries entries + 1
  | .held _ => 1
def uptoBulkAll {H : Type} : List (DataW H) → Nat
  | [] => 0
  | d :: r => uptoBulk d + uptoBulkAll r
def uptoBulkEntries {H : Type} : List (Lit × DataW H) → Nat
  | [] => 0
  | x :: r => uptoBulkEntry x + uptoBulkEntries r
def uptoBulkEntry {H : Type} : Lit × DataW H → Nat
  | (.string bytes, d) => bytes.length + uptoBulk d + 1
  | (_, d) => uptoBulk d + 1
 end
def uptoSmall : (H : Type) → List (DataW H) → Bool := fun _ ds => decide (uptoBulkAll ds ≤ 1048576)
def OpenSpec.upto (s : _root_.Go.ChangeSpec) : _root_.Go.OpenSpec := { _root_.Go.OpenSpec.ofChange s with cond := some uptoSmall }

/-- 'pendentivelaw10.StreamFeeds', WHERE WHAT IT READS IS OF BULK AT MOST 1048576: true; the input reads as it did. -/
def streamFeedsUptoRow : OpenClaim := { program := "ytlgmgalopdfcaaadoor", sum := "b742f532daed16c4440eec160ed1244a3561d3a87ea9a407d01f4d084ea26c00", func := "pendentive/pendentivelaw10.StreamFeeds", spec := "streamFeeds", unfollowed := true, recurses := true, named := ["pendentive/mask.wides"], apart := false, laid := [("pendentive/mask.wides", laid_pendentive_mask_wides)], narrowed := true }
def StreamFeedsUptoSaid : Prop := streamFeedsUptoRow.holds Tryd.pinned (OpenSpec.upto streamFeedsSpec)

/-- 'pendentivelaw10.StreamCuts', WHERE WHAT IT READS IS OF BULK AT MOST 1048576: true; the input reads as it did. -/
def streamCutsUptoRow : OpenClaim := { program := "ytlgmgalopdfcaaadoor", sum := "b742f532daed16c4440eec160ed1244a3561d3a87ea9a407d01f4d084ea26c00", func := "pendentive/pendentivelaw10.StreamCuts", spec := "streamCuts", unfollowed := true, recurses := true, named := ["pendentive/mask.wides"], apart := false, laid := [("pendentive/mask.wides", laid_pendentive_mask_wides)], narrowed := true }
def StreamCutsUptoSaid : Prop := streamCutsUptoRow.holds Tryd.pinned (OpenSpec.upto streamCutsSpec)

/-- 'pendentivelaw10.StreamBack', WHERE WHAT IT READS IS OF BULK AT MOST 1048576: true; the input reads as it did. -/
def streamBackUptoRow : OpenClaim := { program := "ytlgmgalopdfcaaadoor", sum := "b742f532daed16c4440eec160ed1244a3561d3a87ea9a407d01f4d084ea26c00", func := "pendentive/pendentivelaw10.StreamBack", spec := "streamBack", unfollowed := true, recurses := true, named := ["pendentive/mask.wides"], apart := false, laid := [("pendentive/mask.wides", laid_pendentive_mask_wides)], narrowed := true }
def StreamBackUptoSaid : Prop := streamBackUptoRow.holds Tryd.pinned (OpenSpec.upto streamBackSpec)

/-- 'pendentivelaw10.StreamStops', WHERE WHAT IT READS IS OF BULK AT MOST 1048576: true; the input reads as it did. -/
def streamStopsUptoRow : OpenClaim := { program := "ytlgmgalopdfcaaadoor", sum := "b742f532daed16c4440eec160ed1244a3561d3a87ea9a407d01f4d084ea26c00", func := "pendentive/pendentivelaw10.StreamStops", spec := "streamStops", unfollowed := true, recurses := true, named := ["pendentive/mask.wides"], apart := false, laid := [("pendentive/mask.wides", laid_pendentive_mask_wides)], narrowed := true }
def StreamStopsUptoSaid : Prop := streamStopsUptoRow.holds Tryd.pinned (OpenSpec.upto streamStopsSpec)

/-- 'pendentivelaw10.StreamPart', WHERE WHAT IT READS IS OF BULK AT MOST 1048576: true; the input reads as it did. -/
def streamPartUptoRow : OpenClaim := { program := "ytlgmgalopdfcaaadoor", sum := "b742f532daed16c4440eec160ed1244a3561d3a87ea9a407d01f4d084ea26c00", func := "pendentive/pendentivelaw10.StreamPart", spec := "streamPart", unfollowed := true, recurses := true, named := ["pendentive/mask.wides"], apart := false, laid := [("pendentive/mask.wides", laid_pendentive_mask_wides)], narrowed := true }
def StreamPartUptoSaid : Prop := streamPartUptoRow.holds Tryd.pinned (OpenSpec.upto streamPartSpec)

/-- 'pendentivelaw10.StreamEach', WHERE WHAT IT READS IS OF BULK AT MOST 1048576: true; the input reads as it did. -/
def streamEachUptoRow : OpenClaim := { program := "ytlgmgalopdfcaaadoor", sum := "b742f532daed16c4440eec160ed1244a3561d3a87ea9a407d01f4d084ea26c00", func := "pendentive/pendentivelaw10.StreamEach", spec := "streamEach", unfollowed := true, recurses := true, named := ["pendentive/mask.wides"], apart := false, laid := [("pendentive/mask.wides", laid_pendentive_mask_wides)], narrowed := true }
def StreamEachUptoSaid : Prop := streamEachUptoRow.holds Tryd.pinned (OpenSpec.upto streamEachSpec)

end Rows
end Go.Proofs.YtlgmgalopdfcaaaDoor
