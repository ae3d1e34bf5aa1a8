/-
  NARROWER THAN 'FOR EVERY INPUT', by the rows' own cells (each row's printed sentence says how): MaskTurns: laid · MaskCuts: laid · MaskLengths: laid · MaskGets: laid · MaskKeys: laid · MaskTwo: laid · MaskLonger: laid.
  DERIVED. THE GIVEN ROWS OF THIS SEAT. 7 by the template 'for every input the law returns true; each argument reads behind the call as it read before'; 0 by the template 'total and deterministic' (their statements: YtleekkjaoccjlaaDoorTotals.lean).
  GIVEN WITH THE SEED: the statements are not yours to turn. If you find one false, say at which input.
  Laid BY PROGRAM, IN A SANDBOX (cutbox-rows.mjs): the forced cells as the released guide's own fill.sh prints them over the translation 083f6e5d4ebf0949… (all of the seat's roots in one cut). By AI agents, Wed Nov 11 2026. No macro, syntax, notation, axiom, sorry.
-/
import Derived.Test.YtleekkjaoccjlaaDoorChecked
import GoSem.Claim
import GoSem.ClaimJoined
import GoSem.ClaimMapViews
import Derived.JoinedTies
import Derived.KernelRfl
namespace Go.Proofs.YtleekkjaoccjlaaDoor
/- THE CELL 'sum', in the pinned program and in every row, IS THE sha256 OF THE DUMP (.gsa) THAT YtleekkjaoccjlaaDoorProg.lean LOADS. Nothing in Lean hashes anything: it is a label: what it is worth is what the hold of that sum in a sandbox is worth. -/
noncomputable def Tryd.pinned : Pinned := { name := "ytleekkjaoccjlaadoor", sum := "083f6e5d4ebf0949592c19f8d9ddad87a1c6ff236a56dff4bc955b643ea102b5", checked := Tryd.checked }
namespace Rows
def none {H : Type} : Left H := { results := [], args := [] }

/- WHAT THE LISTED PACKAGE-LEVEL VARIABLES READ AS WHEN THE CALL BEGINS. Each datum BY PROGRAM (the guide's laid-datum.mjs) off the statement by which the dump's own 'gosem.cut.vars' lays the variable. In a bare row this is a premise. The card (YtleekkjaoccjlaaDoorCards.lean) ties it to the program's text. -/
def laid_pendentive_mask_wides {H : Type} : DataW H := .agg [.agg [.lit (.int .u8 126), .lit (.int .i64 2), .lit (.int .u64 126), .lit (.int .u64 65535)], .agg [.lit (.int .u8 127), .lit (.int .i64 8), .lit (.int .u64 65536), .lit (.int .u64 9223372036854775807)]]

/-- 'pendentivelaw08.MaskTurns': WHATEVER THE INPUT: true; the input reads as it did. -/
def maskTurnsSpec : ChangeSpec := { name := "maskTurns", fn := fun _ => fun
  | [d1, d2, d3] => { results := [.lit (.bool true)], args := [d1, d2, d3] }
  | _ => none }
def maskTurnsRow : OpenClaim := { program := "ytleekkjaoccjlaadoor", sum := "083f6e5d4ebf0949592c19f8d9ddad87a1c6ff236a56dff4bc955b643ea102b5", func := "pendentive/pendentivelaw08.MaskTurns", spec := "maskTurns", named := ["pendentive/mask.wides"], apart := false, laid := [("pendentive/mask.wides", laid_pendentive_mask_wides)] }
def MaskTurnsSaid : Prop := maskTurnsRow.holds Tryd.pinned (OpenSpec.ofChange maskTurnsSpec)

/-- ITS FALSE NEIGHBOUR: 'it returns false'. Refute it at one input. -/
def maskTurnsWrong : ChangeSpec := { name := "maskTurns", fn := fun _ => fun
  | [d1, d2, d3] => { results := [.lit (.bool false)], args := [d1, d2, d3] }
  | _ => none }
def MaskTurnsWrongFalsely : Prop := maskTurnsRow.holds Tryd.pinned (OpenSpec.ofChange maskTurnsWrong)

/-- 'pendentivelaw08.MaskCuts': WHATEVER THE INPUT: true; the input reads as it did. -/
def maskCutsSpec : ChangeSpec := { name := "maskCuts", fn := fun _ => fun
  | [d1, d2, d3, d4] => { results := [.lit (.bool true)], args := [d1, d2, d3, d4] }
  | _ => none }
def maskCutsRow : OpenClaim := { program := "ytleekkjaoccjlaadoor", sum := "083f6e5d4ebf0949592c19f8d9ddad87a1c6ff236a56dff4bc955b643ea102b5", func := "pendentive/pendentivelaw08.MaskCuts", spec := "maskCuts", named := ["pendentive/mask.wides"], apart := false, laid := [("pendentive/mask.wides", laid_pendentive_mask_wides)] }
def MaskCutsSaid : Prop := maskCutsRow.holds Tryd.pinned (OpenSpec.ofChange maskCutsSpec)

/-- ITS FALSE NEIGHBOUR: 'it returns false'. Refute it at one input. -/
def maskCutsWrong : ChangeSpec := { name := "maskCuts", fn := fun _ => fun
  | [d1, d2, d3, d4] => { results := [.lit (.bool false)], args := [d1, d2, d3, d4] }
  | _ => none }
def MaskCutsWrongFalsely : Prop := maskCutsRow.holds Tryd.pinned (OpenSpec.ofChange maskCutsWrong)

/-- 'pendentivelaw08.MaskLengths': WHATEVER THE INPUT: true; the input reads as it did. -/
def maskLengthsSpec : ChangeSpec := { name := "maskLengths", fn := fun _ => fun
  | [d1, d2] => { results := [.lit (.bool true)], args := [d1, d2] }
  | _ => none }
def maskLengthsRow : OpenClaim := { program := "ytleekkjaoccjlaadoor", sum := "083f6e5d4ebf0949592c19f8d9ddad87a1c6ff236a56dff4bc955b643ea102b5", func := "pendentive/pendentivelaw08.MaskLengths", spec := "maskLengths", named := ["pendentive/mask.wides"], apart := false, laid := [("pendentive/mask.wides", laid_pendentive_mask_wides)] }
def MaskLengthsSaid : Prop := maskLengthsRow.holds Tryd.pinned (OpenSpec.ofChange maskLengthsSpec)

/-- ITS FALSE NEIGHBOUR: 'it returns false'. Refute it at one input. -/
def maskLengthsWrong : ChangeSpec := { name := "maskLengths", fn := fun _ => fun
  | [d1, d2] => { results := [.lit (.bool false)], args := [d1, d2] }
  | _ => none }
def MaskLengthsWrongFalsely : Prop := maskLengthsRow.holds Tryd.pinned (OpenSpec.ofChange maskLengthsWrong)

/-- 'pendentivelaw08.MaskGets': WHATEVER THE INPUT: true; the input reads as it did. -/
def maskGetsSpec : ChangeSpec := { name := "maskGets", fn := fun _ => fun
  | [d] => { results := [.lit (.bool true)], args := [d] }
  | _ => none }
def maskGetsRow : OpenClaim := { program := "ytleekkjaoccjlaadoor", sum := "083f6e5d4ebf0949592c19f8d9ddad87a1c6ff236a56dff4bc955b643ea102b5", func := "pendentive/pendentivelaw08.MaskGets", spec := "maskGets", named := ["pendentive/mask.wides"], apart := false, laid := [("pendentive/mask.wides", laid_pendentive_mask_wides)] }
def MaskGetsSaid : Prop := maskGetsRow.holds Tryd.pinned (OpenSpec.ofChange maskGetsSpec)

/-- ITS FALSE NEIGHBOUR: 'it returns false'. Refute it at one input. -/
def maskGetsWrong : ChangeSpec := { name := "maskGets", fn := fun _ => fun
  | [d] => { results := [.lit (.bool false)], args := [d] }
  | _ => none }
def MaskGetsWrongFalsely : Prop := maskGetsRow.holds Tryd.pinned (OpenSpec.ofChange maskGetsWrong)

/-- 'pendentivelaw08.MaskKeys': WHATEVER THE INPUT: true; the input reads as it did. -/
def maskKeysSpec : ChangeSpec := { name := "maskKeys", fn := fun _ => fun
  | [d1, d2] => { results := [.lit (.bool true)], args := [d1, d2] }
  | _ => none }
def maskKeysRow : OpenClaim := { program := "ytleekkjaoccjlaadoor", sum := "083f6e5d4ebf0949592c19f8d9ddad87a1c6ff236a56dff4bc955b643ea102b5", func := "pendentive/pendentivelaw08.MaskKeys", spec := "maskKeys", named := ["pendentive/mask.wides"], apart := false, laid := [("pendentive/mask.wides", laid_pendentive_mask_wides)] }
def MaskKeysSaid : Prop := maskKeysRow.holds Tryd.pinned (OpenSpec.ofChange maskKeysSpec)

/-- ITS FALSE NEIGHBOUR: 'it returns false'. Refute it at one input. -/
def maskKeysWrong : ChangeSpec := { name := "maskKeys", fn := fun _ => fun
  | [d1, d2] => { results := [.lit (.bool false)], args := [d1, d2] }
  | _ => none }
def MaskKeysWrongFalsely : Prop := maskKeysRow.holds Tryd.pinned (OpenSpec.ofChange maskKeysWrong)

/-- 'pendentivelaw08.MaskTwo': WHATEVER THE INPUT: true; the input reads as it did. -/
def maskTwoSpec : ChangeSpec := { name := "maskTwo", fn := fun _ => fun
  | [d1, d2, d3, d4] => { results := [.lit (.bool true)], args := [d1, d2, d3, d4] }
  | _ => none }
def maskTwoRow : OpenClaim := { program := "ytleekkjaoccjlaadoor", sum := "083f6e5d4ebf0949592c19f8d9ddad87a1c6ff236a56dff4bc955b643ea102b5", func := "pendentive/pendentivelaw08.MaskTwo", spec := "maskTwo", named := ["pendentive/mask.wides"], apart := false, laid := [("pendentive/mask.wides", laid_pendentive_mask_wides)] }
def MaskTwoSaid : Prop := maskTwoRow.holds Tryd.pinned (OpenSpec.ofChange maskTwoSpec)

/-- ITS FALSE NEIGHBOUR: 'it returns false'. Refute it at one input. -/
def maskTwoWrong : ChangeSpec := { name := "maskTwo", fn := fun _ => fun
  | [d1, d2, d3, d4] => { results := [.lit (.bool false)], args := [d1, d2, d3, d4] }
  | _ => none }
def MaskTwoWrongFalsely : Prop := maskTwoRow.holds Tryd.pinned (OpenSpec.ofChange maskTwoWrong)

/-- 'pendentivelaw08.MaskLonger': WHATEVER THE INPUT: true; the input reads as it did. -/
def maskLongerSpec : ChangeSpec := { name := "maskLonger", fn := fun _ => fun
  | [d1, d2] => { results := [.lit (.bool true)], args := [d1, d2] }
  | _ => none }
def maskLongerRow : OpenClaim := { program := "ytleekkjaoccjlaadoor", sum := "083f6e5d4ebf0949592c19f8d9ddad87a1c6ff236a56dff4bc955b643ea102b5", func := "pendentive/pendentivelaw08.MaskLonger", spec := "maskLonger", named := ["pendentive/mask.wides"], apart := false, laid := [("pendentive/mask.wides", laid_pendentive_mask_wides)] }
def MaskLongerSaid : Prop := maskLongerRow.holds Tryd.pinned (OpenSpec.ofChange maskLongerSpec)

/-- ITS FALSE NEIGHBOUR: 'it returns false'. Refute it at one input. -/
def maskLongerWrong : ChangeSpec := { name := "maskLonger", fn := fun _ => fun
  | [d1, d2] => { results := [.lit (.bool false)], args := [d1, d2] }
  | _ => none }
def MaskLongerWrongFalsely : Prop := maskLongerRow.holds Tryd.pinned (OpenSpec.ofChange maskLongerWrong)

/- THE SECOND FORM. 'bulk': how many values and letters a reading holds, each counted each time it is reached (what is shared counts as often as it is met; a slice's spare places count too). A statement '..UptoSaid' is the law's where the arguments, and the package variables that the reading takes, are together of bulk at most 1048576: NARROWER than '..Said'. Prove '..Said' where nothing that the law and all that it calls make is longer than what came in: it says more and counts as full. Else prove '..UptoSaid'. A law counts once. -/
mutual
def uptoBulk {H : Type} : DataW H → Nat
  | .lit (.string bytes) => bytes.length + 1
  | .lit _ => 1
  | .nil => 1
  | .ptr d => uptoBulk d + 1
  | .slice elems spare => uptoBulkAll elems + uptoBulkAll spare + 1
  | .agg parts => uptoBulkAll parts + 1
  | .iface _ d => uptoBulk d + 1
  | .map entries => uptoBulkEntries entries + 1
  | .held _ => 1
def uptoBulkAll {H : Type} : List (DataW H) → Nat
  | [] => 0
  | d :: r => uptoBulk d + uptoBulkAll r
def uptoBulkEntries {H : Type} : List (Lit × DataW H) → Nat
  | [] => 0
  | x :: r => uptoBulkEntry x + uptoBulkEntries r
def uptoBulkEntry {H : Type} : Lit × DataW H → Nat
  | (.string bytes, d) => bytes.length + uptoBulk d + 1
  | (_, d) => uptoBulk d + 1
 end
def uptoSmall : (H : Type) → List (DataW H) → Bool := fun _ ds => decide (uptoBulkAll ds ≤ 1048576)
def OpenSpec.upto (s : _root_.Go.ChangeSpec) : _root_.Go.OpenSpec := { _root_.Go.OpenSpec.ofChange s with cond := some uptoSmall }

/-- 'pendentivelaw08.MaskTurns', WHERE WHAT IT READS IS OF BULK AT MOST 1048576: true; the input reads as it did. -/
def maskTurnsUptoRow : OpenClaim := { program := "ytleekkjaoccjlaadoor", sum := "083f6e5d4ebf0949592c19f8d9ddad87a1c6ff236a56dff4bc955b643ea102b5", func := "pendentive/pendentivelaw08.MaskTurns", spec := "maskTurns", named := ["pendentive/mask.wides"], apart := false, laid := [("pendentive/mask.wides", laid_pendentive_mask_wides)], narrowed := true }
def MaskTurnsUptoSaid : Prop := maskTurnsUptoRow.holds Tryd.pinned (OpenSpec.upto maskTurnsSpec)

/-- 'pendentivelaw08.MaskCuts', WHERE WHAT IT READS IS OF BULK AT MOST 1048576: true; the input reads as it did. -/
def maskCutsUptoRow : OpenClaim := { program := "ytleekkjaoccjlaadoor", sum := "083f6e5d4ebf0949592c19f8d9ddad87a1c6ff236a56dff4bc955b643ea102b5", func := "pendentive/pendentivelaw08.MaskCuts", spec := "maskCuts", named := ["pendentive/mask.wides"], apart := false, laid := [("pendentive/mask.wides", laid_pendentive_mask_wides)], narrowed := true }
def MaskCutsUptoSaid : Prop := maskCutsUptoRow.holds Tryd.pinned (OpenSpec.upto maskCutsSpec)

/-- 'pendentivelaw08.MaskLengths', WHERE WHAT IT READS IS OF BULK AT MOST 1048576: true; the input reads as it did. -/
def maskLengthsUptoRow : OpenClaim := { program := "ytleekkjaoccjlaadoor", sum := "083f6e5d4ebf0949592c19f8d9ddad87a1c6ff236a56dff4bc955b643ea102b5", func := "pendentive/pendentivelaw08.MaskLengths", spec := "maskLengths", named := ["pendentive/mask.wides"], apart := false, laid := [("pendentive/mask.wides", laid_pendentive_mask_wides)], narrowed := true }
def MaskLengthsUptoSaid : Prop := maskLengthsUptoRow.holds Tryd.pinned (OpenSpec.upto maskLengthsSpec)

/-- 'pendentivelaw08.MaskGets', WHERE WHAT IT READS IS OF BULK AT MOST 1048576: true; the input reads as it did. -/
def maskGetsUptoRow : OpenClaim := { program := "ytleekkjaoccjlaadoor", sum := "083f6e5d4ebf0949592c19f8d9ddad87a1c6ff236a56dff4bc955b643ea102b5", func := "pendentive/pendentivelaw08.MaskGets", spec := "maskGets", named := ["pendentive/mask.wides"], apart := false, laid := [("pendentive/mask.wides", laid_pendentive_mask_wides)], narrowed := true }
def MaskGetsUptoSaid : Prop := maskGetsUptoRow.holds Tryd.pinned (OpenSpec.upto maskGetsSpec)

/-- 'pendentivelaw08.MaskKeys', WHERE WHAT IT READS IS OF BULK AT MOST 1048576: true; the input reads as it did. -/
def maskKeysUptoRow : OpenClaim := { program := "ytleekkjaoccjlaadoor", sum := "083f6e5d4ebf0949592c19f8d9ddad87a1c6ff236a56dff4bc955b643ea102b5", func := "pendentive/pendentivelaw08.MaskKeys", spec := "maskKeys", named := ["pendentive/mask.wides"], apart := false, laid := [("pendentive/mask.wides", laid_pendentive_mask_wides)], narrowed := true }
def MaskKeysUptoSaid : Prop := maskKeysUptoRow.holds Tryd.pinned (OpenSpec.upto maskKeysSpec)

/-- 'pendentivelaw08.MaskTwo', WHERE WHAT IT READS IS OF BULK AT MOST 1048576: true; the input reads as it did. -/
def maskTwoUptoRow : OpenClaim := { program := "ytleekkjaoccjlaadoor", sum := "083f6e5d4ebf0949592c19f8d9ddad87a1c6ff236a56dff4bc955b643ea102b5", func := "pendentive/pendentivelaw08.MaskTwo", spec := "maskTwo", named := ["pendentive/mask.wides"], apart := false, laid := [("pendentive/mask.wides", laid_pendentive_mask_wides)], narrowed := true }
def MaskTwoUptoSaid : Prop := maskTwoUptoRow.holds Tryd.pinned (OpenSpec.upto maskTwoSpec)

/-- 'pendentivelaw08.MaskLonger', WHERE WHAT IT READS IS OF BULK AT MOST 1048576: true; the input reads as it did. -/
def maskLongerUptoRow : OpenClaim := { program := "ytleekkjaoccjlaadoor", sum := "083f6e5d4ebf0949592c19f8d9ddad87a1c6ff236a56dff4bc955b643ea102b5", func := "pendentive/pendentivelaw08.MaskLonger", spec := "maskLonger", named := ["pendentive/mask.wides"], apart := false, laid := [("pendentive/mask.wides", laid_pendentive_mask_wides)], narrowed := true }
def MaskLongerUptoSaid : Prop := maskLongerUptoRow.holds Tryd.pinned (OpenSpec.upto maskLongerSpec)

end Rows
end Go.Proofs.YtleekkjaoccjlaaDoor
