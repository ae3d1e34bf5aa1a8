/-
  NARROWER THAN 'FOR EVERY INPUT', by the rows' own cells (each row's printed sentence says how): LegPlays: laid · LegSays: laid · LegEnds: laid · LegReads: laid · LegBound: laid · LegBoth: laid · LegPongs: laid · LegFree: laid.
  DERIVED. THE GIVEN ROWS OF THIS SEAT. 8 by the template 'for every input the law returns true; each argument reads behind the call as it read before'; 0 by the template 'total and deterministic' (their statements: YtlahonjmfecikaaGreatDoorTotals.lean).
  GIVEN WITH THE SEED: the statements are not yours to turn. If you find one false, say at which input.
  Laid BY PROGRAM, IN A SANDBOX (cutbox-rows.mjs): the forced cells as the released guide's own fill.sh prints them over the translation 49b762d28e5566cc… (all of the seat's roots in one cut). By AI agents, Wed Nov 11 2026. No macro, syntax, notation, axiom, sorry.
-/
import Derived.Test.YtlahonjmfecikaaGreatDoorChecked
import GoSem.Claim
import GoSem.ClaimJoined
import GoSem.ClaimMapViews
import Derived.JoinedTies
import Derived.KernelRfl
namespace Go.Proofs.YtlahonjmfecikaaGreatDoor
/- THE CELL 'sum', in the pinned program and in every row, IS THE sha256 OF THE DUMP (.gsa) THAT YtlahonjmfecikaaGreatDoorProg.lean LOADS. Nothing in Lean hashes anything: it is a label: what it is worth is what the hold of that sum in a sandbox is worth. -/
noncomputable def Tryz.pinned : Pinned := { name := "ytlahonjmfecikaagreatdoor", sum := "49b762d28e5566cc4a0a190aebee2dbf55e6bb7b822af6180451595643360372", checked := Tryz.checked }
namespace Rows
def none {H : Type} : Left H := { results := [], args := [] }

/- WHAT THE LISTED PACKAGE-LEVEL VARIABLES READ AS WHEN THE CALL BEGINS. Each datum BY PROGRAM (the guide's laid-datum.mjs) off the statement by which the dump's own 'gosem.cut.vars' lays the variable. In a bare row this is a premise. The card (YtlahonjmfecikaaGreatDoorCards.lean) ties it to the program's text. -/
def laid_pendentive_mask_wides {H : Type} : DataW H := .agg [.agg [.lit (.int .u8 126), .lit (.int .i64 2), .lit (.int .u64 126), .lit (.int .u64 65535)], .agg [.lit (.int .u8 127), .lit (.int .i64 8), .lit (.int .u64 65536), .lit (.int .u64 9223372036854775807)]]
def laid_pendentive_utf_starts {H : Type} : DataW H := .agg [.agg [.agg [.lit (.int .u8 0), .lit (.int .u8 127)], .lit (.int .i64 0), .agg [.lit (.int .u8 0), .lit (.int .u8 0)]], .agg [.agg [.lit (.int .u8 194), .lit (.int .u8 223)], .lit (.int .i64 1), .agg [.lit (.int .u8 128), .lit (.int .u8 191)]], .agg [.agg [.lit (.int .u8 224), .lit (.int .u8 224)], .lit (.int .i64 2), .agg [.lit (.int .u8 160), .lit (.int .u8 191)]], .agg [.agg [.lit (.int .u8 225), .lit (.int .u8 236)], .lit (.int .i64 2), .agg [.lit (.int .u8 128), .lit (.int .u8 191)]], .agg [.agg [.lit (.int .u8 237), .lit (.int .u8 237)], .lit (.int .i64 2), .agg [.lit (.int .u8 128), .lit (.int .u8 159)]], .agg [.agg [.lit (.int .u8 238), .lit (.int .u8 239)], .lit (.int .i64 2), .agg [.lit (.int .u8 128), .lit (.int .u8 191)]], .agg [.agg [.lit (.int .u8 240), .lit (.int .u8 240)], .lit (.int .i64 3), .agg [.lit (.int .u8 144), .lit (.int .u8 191)]], .agg [.agg [.lit (.int .u8 241), .lit (.int .u8 243)], .lit (.int .i64 3), .agg [.lit (.int .u8 128), .lit (.int .u8 191)]], .agg [.agg [.lit (.int .u8 244), .lit (.int .u8 244)], .lit (.int .i64 3), .agg [.lit (.int .u8 128), .lit (.int .u8 143)]]]
def laid_pendentive_head_tokenSpans {H : Type} : DataW H := .agg [.agg [.lit (.int .u8 97), .lit (.int .u8 122)], .agg [.lit (.int .u8 65), .lit (.int .u8 90)], .agg [.lit (.int .u8 48), .lit (.int .u8 57)]]

/-- 'pendentivelaw16.LegPlays': WHATEVER THE INPUT: true; the input reads as it did. -/
def legPlaysSpec : ChangeSpec := { name := "legPlays", fn := fun _ => fun
  | [d1, d2, d3, d4] => { results := [.lit (.bool true)], args := [d1, d2, d3, d4] }
  | _ => none }
def legPlaysRow : OpenClaim := { program := "ytlahonjmfecikaagreatdoor", sum := "49b762d28e5566cc4a0a190aebee2dbf55e6bb7b822af6180451595643360372", func := "pendentive/pendentivelaw16.LegPlays", spec := "legPlays", inPlace := ["internal/bytealg.IndexByteString", "internal/bytealg.IndexString"], unfollowed := true, recurses := true, named := ["internal/bytealg.MaxLen", "pendentive/head.tokenSpans", "pendentive/mask.wides", "pendentive/utf.starts"], apart := false, laid := [("pendentive/mask.wides", laid_pendentive_mask_wides), ("pendentive/utf.starts", laid_pendentive_utf_starts), ("pendentive/head.tokenSpans", laid_pendentive_head_tokenSpans)] }
def LegPlaysSaid : Prop := legPlaysRow.holds Tryz.pinned (OpenSpec.ofChange legPlaysSpec)

/-- ITS FALSE NEIGHBOUR: 'it returns false'. Refute it at one input. -/
def legPlaysWrong : ChangeSpec := { name := "legPlays", fn := fun _ => fun
  | [d1, d2, d3, d4] => { results := [.lit (.bool false)], args := [d1, d2, d3, d4] }
  | _ => none }
def LegPlaysWrongFalsely : Prop := legPlaysRow.holds Tryz.pinned (OpenSpec.ofChange legPlaysWrong)

/-- 'pendentivelaw16.LegSays': WHATEVER THE INPUT: true; the input reads as it did. -/
def legSaysSpec : ChangeSpec := { name := "legSays", fn := fun _ => fun
  | [d1, d2, d3, d4] => { results := [.lit (.bool true)], args := [d1, d2, d3, d4] }
  | _ => none }
def legSaysRow : OpenClaim := { program := "ytlahonjmfecikaagreatdoor", sum := "49b762d28e5566cc4a0a190aebee2dbf55e6bb7b822af6180451595643360372", func := "pendentive/pendentivelaw16.LegSays", spec := "legSays", inPlace := ["internal/bytealg.IndexByteString", "internal/bytealg.IndexString"], unfollowed := true, recurses := true, named := ["internal/bytealg.MaxLen", "pendentive/head.tokenSpans", "pendentive/mask.wides", "pendentive/utf.starts"], apart := false, laid := [("pendentive/mask.wides", laid_pendentive_mask_wides), ("pendentive/utf.starts", laid_pendentive_utf_starts), ("pendentive/head.tokenSpans", laid_pendentive_head_tokenSpans)] }
def LegSaysSaid : Prop := legSaysRow.holds Tryz.pinned (OpenSpec.ofChange legSaysSpec)

/-- ITS FALSE NEIGHBOUR: 'it returns false'. Refute it at one input. -/
def legSaysWrong : ChangeSpec := { name := "legSays", fn := fun _ => fun
  | [d1, d2, d3, d4] => { results := [.lit (.bool false)], args := [d1, d2, d3, d4] }
  | _ => none }
def LegSaysWrongFalsely : Prop := legSaysRow.holds Tryz.pinned (OpenSpec.ofChange legSaysWrong)

/-- 'pendentivelaw16.LegEnds': WHATEVER THE INPUT: true; the input reads as it did. -/
def legEndsSpec : ChangeSpec := { name := "legEnds", fn := fun _ => fun
  | [d1, d2, d3, d4] => { results := [.lit (.bool true)], args := [d1, d2, d3, d4] }
  | _ => none }
def legEndsRow : OpenClaim := { program := "ytlahonjmfecikaagreatdoor", sum := "49b762d28e5566cc4a0a190aebee2dbf55e6bb7b822af6180451595643360372", func := "pendentive/pendentivelaw16.LegEnds", spec := "legEnds", inPlace := ["internal/bytealg.IndexByteString", "internal/bytealg.IndexString"], unfollowed := true, recurses := true, named := ["internal/bytealg.MaxLen", "pendentive/head.tokenSpans", "pendentive/mask.wides", "pendentive/utf.starts"], apart := false, laid := [("pendentive/mask.wides", laid_pendentive_mask_wides), ("pendentive/utf.starts", laid_pendentive_utf_starts), ("pendentive/head.tokenSpans", laid_pendentive_head_tokenSpans)] }
def LegEndsSaid : Prop := legEndsRow.holds Tryz.pinned (OpenSpec.ofChange legEndsSpec)

/-- ITS FALSE NEIGHBOUR: 'it returns false'. Refute it at one input. -/
def legEndsWrong : ChangeSpec := { name := "legEnds", fn := fun _ => fun
  | [d1, d2, d3, d4] => { results := [.lit (.bool false)], args := [d1, d2, d3, d4] }
  | _ => none }
def LegEndsWrongFalsely : Prop := legEndsRow.holds Tryz.pinned (OpenSpec.ofChange legEndsWrong)

/-- 'pendentivelaw16.LegReads': WHATEVER THE INPUT: true; the input reads as it did. -/
def legReadsSpec : ChangeSpec := { name := "legReads", fn := fun _ => fun
  | [d1, d2, d3] => { results := [.lit (.bool true)], args := [d1, d2, d3] }
  | _ => none }
def legReadsRow : OpenClaim := { program := "ytlahonjmfecikaagreatdoor", sum := "49b762d28e5566cc4a0a190aebee2dbf55e6bb7b822af6180451595643360372", func := "pendentive/pendentivelaw16.LegReads", spec := "legReads", inPlace := ["internal/bytealg.IndexByteString", "internal/bytealg.IndexString"], unfollowed := true, recurses := true, named := ["internal/bytealg.MaxLen", "pendentive/head.tokenSpans", "pendentive/mask.wides", "pendentive/utf.starts"], apart := false, laid := [("pendentive/mask.wides", laid_pendentive_mask_wides), ("pendentive/utf.starts", laid_pendentive_utf_starts), ("pendentive/head.tokenSpans", laid_pendentive_head_tokenSpans)] }
def LegReadsSaid : Prop := legReadsRow.holds Tryz.pinned (OpenSpec.ofChange legReadsSpec)

/-- ITS FALSE NEIGHBOUR: 'it returns false'. Refute it at one input. -/
def legReadsWrong : ChangeSpec := { name := "legReads", fn := fun _ => fun
  | [d1, d2, d3] => { results := [.lit (.bool false)], args := [d1, d2, d3] }
  | _ => none }
def LegReadsWrongFalsely : Prop := legReadsRow.holds Tryz.pinned (OpenSpec.ofChange legReadsWrong)

/-- 'pendentivelaw16.LegBound': WHATEVER THE INPUT: true; the input reads as it did. -/
def legBoundSpec : ChangeSpec := { name := "legBound", fn := fun _ => fun
  | [d1, d2, d3, d4] => { results := [.lit (.bool true)], args := [d1, d2, d3, d4] }
  | _ => none }
def legBoundRow : OpenClaim := { program := "ytlahonjmfecikaagreatdoor", sum := "49b762d28e5566cc4a0a190aebee2dbf55e6bb7b822af6180451595643360372", func := "pendentive/pendentivelaw16.LegBound", spec := "legBound", inPlace := ["internal/bytealg.IndexByteString", "internal/bytealg.IndexString"], unfollowed := true, recurses := true, named := ["internal/bytealg.MaxLen", "pendentive/head.tokenSpans", "pendentive/mask.wides", "pendentive/utf.starts"], apart := false, laid := [("pendentive/mask.wides", laid_pendentive_mask_wides), ("pendentive/utf.starts", laid_pendentive_utf_starts), ("pendentive/head.tokenSpans", laid_pendentive_head_tokenSpans)] }
def LegBoundSaid : Prop := legBoundRow.holds Tryz.pinned (OpenSpec.ofChange legBoundSpec)

/-- ITS FALSE NEIGHBOUR: 'it returns false'. Refute it at one input. -/
def legBoundWrong : ChangeSpec := { name := "legBound", fn := fun _ => fun
  | [d1, d2, d3, d4] => { results := [.lit (.bool false)], args := [d1, d2, d3, d4] }
  | _ => none }
def LegBoundWrongFalsely : Prop := legBoundRow.holds Tryz.pinned (OpenSpec.ofChange legBoundWrong)

/-- 'pendentivelaw16.LegBoth': WHATEVER THE INPUT: true; the input reads as it did. -/
def legBothSpec : ChangeSpec := { name := "legBoth", fn := fun _ => fun
  | [d1, d2, d3, d4, d5] => { results := [.lit (.bool true)], args := [d1, d2, d3, d4, d5] }
  | _ => none }
def legBothRow : OpenClaim := { program := "ytlahonjmfecikaagreatdoor", sum := "49b762d28e5566cc4a0a190aebee2dbf55e6bb7b822af6180451595643360372", func := "pendentive/pendentivelaw16.LegBoth", spec := "legBoth", inPlace := ["internal/bytealg.IndexByteString", "internal/bytealg.IndexString"], unfollowed := true, recurses := true, named := ["internal/bytealg.MaxLen", "pendentive/head.tokenSpans", "pendentive/mask.wides", "pendentive/utf.starts"], apart := false, laid := [("pendentive/mask.wides", laid_pendentive_mask_wides), ("pendentive/utf.starts", laid_pendentive_utf_starts), ("pendentive/head.tokenSpans", laid_pendentive_head_tokenSpans)] }
def LegBothSaid : Prop := legBothRow.holds Tryz.pinned (OpenSpec.ofChange legBothSpec)

/-- ITS FALSE NEIGHBOUR: 'it returns false'. Refute it at one input. -/
def legBothWrong : ChangeSpec := { name := "legBoth", fn := fun _ => fun
  | [d1, d2, d3, d4, d5] => { results := [.lit (.bool false)], args := [d1, d2, d3, d4, d5] }
  | _ => none }
def LegBothWrongFalsely : Prop := legBothRow.holds Tryz.pinned (OpenSpec.ofChange legBothWrong)

/-- 'pendentivelaw16.LegPongs': WHATEVER THE INPUT: true; the input reads as it did. -/
def legPongsSpec : ChangeSpec := { name := "legPongs", fn := fun _ => fun
  | [d1, d2] => { results := [.lit (.bool true)], args := [d1, d2] }
  | _ => none }
def legPongsRow : OpenClaim := { program := "ytlahonjmfecikaagreatdoor", sum := "49b762d28e5566cc4a0a190aebee2dbf55e6bb7b822af6180451595643360372", func := "pendentive/pendentivelaw16.LegPongs", spec := "legPongs", inPlace := ["internal/bytealg.IndexByteString", "internal/bytealg.IndexString"], unfollowed := true, recurses := true, named := ["internal/bytealg.MaxLen", "pendentive/head.tokenSpans", "pendentive/mask.wides", "pendentive/utf.starts"], apart := false, laid := [("pendentive/mask.wides", laid_pendentive_mask_wides), ("pendentive/utf.starts", laid_pendentive_utf_starts), ("pendentive/head.tokenSpans", laid_pendentive_head_tokenSpans)] }
def LegPongsSaid : Prop := legPongsRow.holds Tryz.pinned (OpenSpec.ofChange legPongsSpec)

/-- ITS FALSE NEIGHBOUR: 'it returns false'. Refute it at one input. -/
def legPongsWrong : ChangeSpec := { name := "legPongs", fn := fun _ => fun
  | [d1, d2] => { results := [.lit (.bool false)], args := [d1, d2] }
  | _ => none }
def LegPongsWrongFalsely : Prop := legPongsRow.holds Tryz.pinned (OpenSpec.ofChange legPongsWrong)

/-- 'pendentivelaw16.LegFree': WHATEVER THE INPUT: true; the input reads as it did. -/
def legFreeSpec : ChangeSpec := { name := "legFree", fn := fun _ => fun
  | [d1, d2, d3] => { results := [.lit (.bool true)], args := [d1, d2, d3] }
  | _ => none }
def legFreeRow : OpenClaim := { program := "ytlahonjmfecikaagreatdoor", sum := "49b762d28e5566cc4a0a190aebee2dbf55e6bb7b822af6180451595643360372", func := "pendentive/pendentivelaw16.LegFree", spec := "legFree", inPlace := ["internal/bytealg.IndexByteString", "internal/bytealg.IndexString"], unfollowed := true, recurses := true, named := ["internal/bytealg.MaxLen", "pendentive/head.tokenSpans", "pendentive/mask.wides", "pendentive/utf.starts"], apart := false, laid := [("pendentive/mask.wides", laid_pendentive_mask_wides), ("pendentive/utf.starts", laid_pendentive_utf_starts), ("pendentive/head.tokenSpans", laid_pendentive_head_tokenSpans)] }
def LegFreeSaid : Prop := legFreeRow.holds Tryz.pinned (OpenSpec.ofChange legFreeSpec)

/-- ITS FALSE NEIGHBOUR: 'it returns false'. Refute it at one input. -/
def legFreeWrong : ChangeSpec := { name := "legFree", fn := fun _ => fun
  | [d1, d2, d3] => { results := [.lit (.bool false)], args := [d1, d2, d3] }
  | _ => none }
def LegFreeWrongFalsely : Prop := legFreeRow.holds Tryz.pinned (OpenSpec.ofChange legFreeWrong)

/- THE SECOND FORM. 'bulk': how many values and letters a reading holds, each counted each time it is reached (what is shared counts as often as it is met; a slice's spare places count too). A statement '..UptoSaid' is the law's where the arguments, and the package variables that the reading takes, are together of bulk at most 1048576: NARROWER than '..Said'. Prove '..Said' where nothing that the law and all that it calls make is longer than what came in: it says more and counts as full. Else prove '..UptoSaid'. A law counts once. -/
mutual
def uptoBulk {H : Type} : DataW H → Nat
  | .lit (.string bytes) => bytes.length + 1
  | .lit _ => 1
  | .nil => 1
  | .ptr d => uptoBulk d + 1
  | .slice elems spare => uptoBulkAll elems + uptoBulkAll spare + 1
  | .agg parts => uptoBulkAll parts + 1
  | .iface _ d => uptoBulk d + 1
  | .map entries => uptoBulkEntries entries + 1
  | .held _ => 1
def uptoBulkAll {H : Type} : List (DataW H) → Nat
  | [] => 0
  | d :: r => uptoBulk d + uptoBulkAll r
def uptoBulkEntries {H : Type} : List (Lit × DataW H) → Nat
  | [] => 0
  | x :: r => uptoBulkEntry x + uptoBulkEntries r
def uptoBulkEntry {H : Type} : Lit × DataW H → Nat
  | (.string bytes, d) => bytes.length + uptoBulk d + 1
  | (_, d) => uptoBulk d + 1
 end
def uptoSmall : (H : Type) → List (DataW H) → Bool := fun _ ds => decide (uptoBulkAll ds ≤ 1048576)
def OpenSpec.upto (s : _root_.Go.ChangeSpec) : _root_.Go.OpenSpec := { _root_.Go.OpenSpec.ofChange s with cond := some uptoSmall }

/-- 'pendentivelaw16.LegPlays', WHERE WHAT IT READS IS OF BULK AT MOST 1048576: true; the input reads as it did. -/
def legPlaysUptoRow : OpenClaim := { program := "ytlahonjmfecikaagreatdoor", sum := "49b762d28e5566cc4a0a190aebee2dbf55e6bb7b822af6180451595643360372", func := "pendentive/pendentivelaw16.LegPlays", spec := "legPlays", inPlace := ["internal/bytealg.IndexByteString", "internal/bytealg.IndexString"], unfollowed := true, recurses := true, named := ["internal/bytealg.MaxLen", "pendentive/head.tokenSpans", "pendentive/mask.wides", "pendentive/utf.starts"], apart := false, laid := [("pendentive/mask.wides", laid_pendentive_mask_wides), ("pendentive/utf.starts", laid_pendentive_utf_starts), ("pendentive/head.tokenSpans", laid_pendentive_head_tokenSpans)], narrowed := true }
def LegPlaysUptoSaid : Prop := legPlaysUptoRow.holds Tryz.pinned (OpenSpec.upto legPlaysSpec)

/-- 'pendentivelaw16.LegSays', WHERE WHAT IT READS IS OF BULK AT MOST 1048576: true; the input reads as it did. -/
def legSaysUptoRow : OpenClaim := { program := "ytlahonjmfecikaagreatdoor", sum := "49b762d28e5566cc4a0a190aebee2dbf55e6bb7b822af6180451595643360372", func := "pendentive/pendentivelaw16.LegSays", spec := "legSays", inPlace := ["internal/bytealg.IndexByteString", "internal/bytealg.IndexString"], unfollowed := true, recurses := true, named := ["internal/bytealg.MaxLen", "pendentive/head.tokenSpans", "pendentive/mask.wides", "pendentive/utf.starts"], apart := false, laid := [("pendentive/mask.wides", laid_pendentive_mask_wides), ("pendentive/utf.starts", laid_pendentive_utf_starts), ("pendentive/head.tokenSpans", laid_pendentive_head_tokenSpans)], narrowed := true }
def LegSaysUptoSaid : Prop := legSaysUptoRow.holds Tryz.pinned (OpenSpec.upto legSaysSpec)

/-- 'pendentivelaw16.LegEnds', WHERE WHAT IT READS IS OF BULK AT MOST 1048576: true; the input reads as it did. -/
def legEndsUptoRow : OpenClaim := { program := "ytlahonjmfecikaagreatdoor", sum := "49b762d28e5566cc4a0a190aebee2dbf55e6bb7b822af6180451595643360372", func := "pendentive/pendentivelaw16.LegEnds", spec := "legEnds", inPlace := ["internal/bytealg.IndexByteString", "internal/bytealg.IndexString"], unfollowed := true, recurses := true, named := ["internal/bytealg.MaxLen", "pendentive/head.tokenSpans", "pendentive/mask.wides", "pendentive/utf.starts"], apart := false, laid := [("pendentive/mask.wides", laid_pendentive_mask_wides), ("pendentive/utf.starts", laid_pendentive_utf_starts), ("pendentive/head.tokenSpans", laid_pendentive_head_tokenSpans)], narrowed := true }
def LegEndsUptoSaid : Prop := legEndsUptoRow.holds Tryz.pinned (OpenSpec.upto legEndsSpec)

/-- 'pendentivelaw16.LegReads', WHERE WHAT IT READS IS OF BULK AT MOST 1048576: true; the input reads as it did. -/
def legReadsUptoRow : OpenClaim := { program := "ytlahonjmfecikaagreatdoor", sum := "49b762d28e5566cc4a0a190aebee2dbf55e6bb7b822af6180451595643360372", func := "pendentive/pendentivelaw16.LegReads", spec := "legReads", inPlace := ["internal/bytealg.IndexByteString", "internal/bytealg.IndexString"], unfollowed := true, recurses := true, named := ["internal/bytealg.MaxLen", "pendentive/head.tokenSpans", "pendentive/mask.wides", "pendentive/utf.starts"], apart := false, laid := [("pendentive/mask.wides", laid_pendentive_mask_wides), ("pendentive/utf.starts", laid_pendentive_utf_starts), ("pendentive/head.tokenSpans", laid_pendentive_head_tokenSpans)], narrowed := true }
def LegReadsUptoSaid : Prop := legReadsUptoRow.holds Tryz.pinned (OpenSpec.upto legReadsSpec)

/-- 'pendentivelaw16.LegBound', WHERE WHAT IT READS IS OF BULK AT MOST 1048576: true; the input reads as it did. -/
def legBoundUptoRow : OpenClaim := { program := "ytlahonjmfecikaagreatdoor", sum := "49b762d28e5566cc4a0a190aebee2dbf55e6bb7b822af6180451595643360372", func := "pendentive/pendentivelaw16.LegBound", spec := "legBound", inPlace := ["internal/bytealg.IndexByteString", "internal/bytealg.IndexString"], unfollowed := true, recurses := true, named := ["internal/bytealg.MaxLen", "pendentive/head.tokenSpans", "pendentive/mask.wides", "pendentive/utf.starts"], apart := false, laid := [("pendentive/mask.wides", laid_pendentive_mask_wides), ("pendentive/utf.starts", laid_pendentive_utf_starts), ("pendentive/head.tokenSpans", laid_pendentive_head_tokenSpans)], narrowed := true }
def LegBoundUptoSaid : Prop := legBoundUptoRow.holds Tryz.pinned (OpenSpec.upto legBoundSpec)

/-- 'pendentivelaw16.LegBoth', WHERE WHAT IT READS IS OF BULK AT MOST 1048576: true; the input reads as it did. -/
def legBothUptoRow : OpenClaim := { program := "ytlahonjmfecikaagreatdoor", sum := "49b762d28e5566cc4a0a190aebee2dbf55e6bb7b822af6180451595643360372", func := "pendentive/pendentivelaw16.LegBoth", spec := "legBoth", inPlace := ["internal/bytealg.IndexByteString", "internal/bytealg.IndexString"], unfollowed := true, recurses := true, named := ["internal/bytealg.MaxLen", "pendentive/head.tokenSpans", "pendentive/mask.wides", "pendentive/utf.starts"], apart := false, laid := [("pendentive/mask.wides", laid_pendentive_mask_wides), ("pendentive/utf.starts", laid_pendentive_utf_starts), ("pendentive/head.tokenSpans", laid_pendentive_head_tokenSpans)], narrowed := true }
def LegBothUptoSaid : Prop := legBothUptoRow.holds Tryz.pinned (OpenSpec.upto legBothSpec)

/-- 'pendentivelaw16.LegPongs', WHERE WHAT IT READS IS OF BULK AT MOST 1048576: true; the input reads as it did. -/
def legPongsUptoRow : OpenClaim := { program := "ytlahonjmfecikaagreatdoor", sum := "49b762d28e5566cc4a0a190aebee2dbf55e6bb7b822af6180451595643360372", func := "pendentive/pendentivelaw16.LegPongs", spec := "legPongs", inPlace := ["internal/bytealg.IndexByteString", "internal/bytealg.IndexString"], unfollowed := true, recurses := true, named := ["internal/bytealg.MaxLen", "pendentive/head.tokenSpans", "pendentive/mask.wides", "pendentive/utf.starts"], apart := false, laid := [("pendentive/mask.wides", laid_pendentive_mask_wides), ("pendentive/utf.starts", laid_pendentive_utf_starts), ("pendentive/head.tokenSpans", laid_pendentive_head_tokenSpans)], narrowed := true }
def LegPongsUptoSaid : Prop := legPongsUptoRow.holds Tryz.pinned (OpenSpec.upto legPongsSpec)

/-- 'pendentivelaw16.LegFree', WHERE WHAT IT READS IS OF BULK AT MOST 1048576: true; the input reads as it did. -/
def legFreeUptoRow : OpenClaim := { program := "ytlahonjmfecikaagreatdoor", sum := "49b762d28e5566cc4a0a190aebee2dbf55e6bb7b822af6180451595643360372", func := "pendentive/pendentivelaw16.LegFree", spec := "legFree", inPlace := ["internal/bytealg.IndexByteString", "internal/bytealg.IndexString"], unfollowed := true, recurses := true, named := ["internal/bytealg.MaxLen", "pendentive/head.tokenSpans", "pendentive/mask.wides", "pendentive/utf.starts"], apart := false, laid := [("pendentive/mask.wides", laid_pendentive_mask_wides), ("pendentive/utf.starts", laid_pendentive_utf_starts), ("pendentive/head.tokenSpans", laid_pendentive_head_tokenSpans)], narrowed := true }
def LegFreeUptoSaid : Prop := legFreeUptoRow.holds Tryz.pinned (OpenSpec.upto legFreeSpec)

end Rows
end Go.Proofs.YtlahonjmfecikaaGreatDoor
