/-
  NARROWER THAN 'FOR EVERY INPUT', by the rows' own cells (each row's printed sentence says how): BasePuts: laid · BaseGets: laid · BaseApart: laid · BaseSizes: laid · BaseFours: laid · BaseTurned: laid · BaseHas: laid · BaseOnes: laid.
  DERIVED. THE GIVEN ROWS OF THIS SEAT. 8 by the template 'for every input the law returns true; each argument reads behind the call as it read before'; 0 by the template 'total and deterministic' (their statements: YtdcgddoginaioaaDoorTotals.lean).
  GIVEN WITH THE SEED: the statements are not yours to turn. If you find one false, say at which input.
  Laid BY PROGRAM, IN A SANDBOX (cutbox-rows.mjs): the forced cells as the released guide's own fill.sh prints them over the translation 65bf50e4e2bd919b… (all of the seat's roots in one cut). By AI agents, Wed Nov 11 2026. No macro, syntax, notation, axiom, sorry.
-/
import Derived.Test.YtdcgddoginaioaaDoorChecked
import GoSem.Claim
import GoSem.ClaimJoined
import GoSem.ClaimMapViews
import Derived.JoinedTies
import Derived.KernelRfl
namespace Go.Proofs.YtdcgddoginaioaaDoor
/- THE CELL 'sum', in the pinned program and in every row, IS THE sha256 OF THE DUMP (.gsa) THAT YtdcgddoginaioaaDoorProg.lean LOADS. Nothing in Lean hashes anything: it is a label: what it is worth is what the hold of that sum in a sandbox is worth. -/
noncomputable def Tryd.pinned : Pinned := { name := "ytdcgddoginaioaadoor", sum := "65bf50e4e2bd919b6c3a35f256eee9b3875dac6b6a0c015c0058624c1561ce53", checked := Tryd.checked }
namespace Rows
def none {H : Type} : Left H := { results := [], args := [] }

/- WHAT THE LISTED PACKAGE-LEVEL VARIABLES READ AS WHEN THE CALL BEGINS. Each datum BY PROGRAM (the guide's laid-datum.mjs) off the statement by which the dump's own 'gosem.cut.vars' lays the variable. In a bare row this is a premise. The card (YtdcgddoginaioaaDoorCards.lean) ties it to the program's text. -/
def laid_pendentive_base_letters {H : Type} : DataW H := .agg [.lit (.int .u8 65), .lit (.int .u8 66), .lit (.int .u8 67), .lit (.int .u8 68), .lit (.int .u8 69), .lit (.int .u8 70), .lit (.int .u8 71), .lit (.int .u8 72), .lit (.int .u8 73), .lit (.int .u8 74), .lit (.int .u8 75), .lit (.int .u8 76), .lit (.int .u8 77), .lit (.int .u8 78), .lit (.int .u8 79), .lit (.int .u8 80), .lit (.int .u8 81), .lit (.int .u8 82), .lit (.int .u8 83), .lit (.int .u8 84), .lit (.int .u8 85), .lit (.int .u8 86), .lit (.int .u8 87), .lit (.int .u8 88), .lit (.int .u8 89), .lit (.int .u8 90), .lit (.int .u8 97), .lit (.int .u8 98), .lit (.int .u8 99), .lit (.int .u8 100), .lit (.int .u8 101), .lit (.int .u8 102), .lit (.int .u8 103), .lit (.int .u8 104), .lit (.int .u8 105), .lit (.int .u8 106), .lit (.int .u8 107), .lit (.int .u8 108), .lit (.int .u8 109), .lit (.int .u8 110), .lit (.int .u8 111), .lit (.int .u8 112), .lit (.int .u8 113), .lit (.int .u8 114), .lit (.int .u8 115), .lit (.int .u8 116), .lit (.int .u8 117), .lit (.int .u8 118), .lit (.int .u8 119), .lit (.int .u8 120), .lit (.int .u8 121), .lit (.int .u8 122), .lit (.int .u8 48), .lit (.int .u8 49), .lit (.int .u8 50), .lit (.int .u8 51), .lit (.int .u8 52), .lit (.int .u8 53), .lit (.int .u8 54), .lit (.int .u8 55), .lit (.int .u8 56), .lit (.int .u8 57), .lit (.int .u8 43), .lit (.int .u8 47)]

/-- 'pendentivelaw02.BasePuts': WHATEVER THE INPUT: true; the input reads as it did. -/
def basePutsSpec : ChangeSpec := { name := "basePuts", fn := fun _ => fun
  | [d] => { results := [.lit (.bool true)], args := [d] }
  | _ => none }
def basePutsRow : OpenClaim := { program := "ytdcgddoginaioaadoor", sum := "65bf50e4e2bd919b6c3a35f256eee9b3875dac6b6a0c015c0058624c1561ce53", func := "pendentive/pendentivelaw02.BasePuts", spec := "basePuts", unfollowed := true, recurses := true, named := ["pendentive/base.letters"], apart := false, laid := [("pendentive/base.letters", laid_pendentive_base_letters)] }
def BasePutsSaid : Prop := basePutsRow.holds Tryd.pinned (OpenSpec.ofChange basePutsSpec)

/-- ITS FALSE NEIGHBOUR: 'it returns false'. Refute it at one input. -/
def basePutsWrong : ChangeSpec := { name := "basePuts", fn := fun _ => fun
  | [d] => { results := [.lit (.bool false)], args := [d] }
  | _ => none }
def BasePutsWrongFalsely : Prop := basePutsRow.holds Tryd.pinned (OpenSpec.ofChange basePutsWrong)

/-- 'pendentivelaw02.BaseGets': WHATEVER THE INPUT: true; the input reads as it did. -/
def baseGetsSpec : ChangeSpec := { name := "baseGets", fn := fun _ => fun
  | [d1, d2] => { results := [.lit (.bool true)], args := [d1, d2] }
  | _ => none }
def baseGetsRow : OpenClaim := { program := "ytdcgddoginaioaadoor", sum := "65bf50e4e2bd919b6c3a35f256eee9b3875dac6b6a0c015c0058624c1561ce53", func := "pendentive/pendentivelaw02.BaseGets", spec := "baseGets", unfollowed := true, recurses := true, named := ["pendentive/base.letters"], apart := false, laid := [("pendentive/base.letters", laid_pendentive_base_letters)] }
def BaseGetsSaid : Prop := baseGetsRow.holds Tryd.pinned (OpenSpec.ofChange baseGetsSpec)

/-- ITS FALSE NEIGHBOUR: 'it returns false'. Refute it at one input. -/
def baseGetsWrong : ChangeSpec := { name := "baseGets", fn := fun _ => fun
  | [d1, d2] => { results := [.lit (.bool false)], args := [d1, d2] }
  | _ => none }
def BaseGetsWrongFalsely : Prop := baseGetsRow.holds Tryd.pinned (OpenSpec.ofChange baseGetsWrong)

/-- 'pendentivelaw02.BaseApart': WHATEVER THE INPUT: true; the input reads as it did. -/
def baseApartSpec : ChangeSpec := { name := "baseApart", fn := fun _ => fun
  | [d1, d2] => { results := [.lit (.bool true)], args := [d1, d2] }
  | _ => none }
def baseApartRow : OpenClaim := { program := "ytdcgddoginaioaadoor", sum := "65bf50e4e2bd919b6c3a35f256eee9b3875dac6b6a0c015c0058624c1561ce53", func := "pendentive/pendentivelaw02.BaseApart", spec := "baseApart", unfollowed := true, recurses := true, named := ["pendentive/base.letters"], apart := false, laid := [("pendentive/base.letters", laid_pendentive_base_letters)] }
def BaseApartSaid : Prop := baseApartRow.holds Tryd.pinned (OpenSpec.ofChange baseApartSpec)

/-- ITS FALSE NEIGHBOUR: 'it returns false'. Refute it at one input. -/
def baseApartWrong : ChangeSpec := { name := "baseApart", fn := fun _ => fun
  | [d1, d2] => { results := [.lit (.bool false)], args := [d1, d2] }
  | _ => none }
def BaseApartWrongFalsely : Prop := baseApartRow.holds Tryd.pinned (OpenSpec.ofChange baseApartWrong)

/-- 'pendentivelaw02.BaseSizes': WHATEVER THE INPUT: true; the input reads as it did. -/
def baseSizesSpec : ChangeSpec := { name := "baseSizes", fn := fun _ => fun
  | [d] => { results := [.lit (.bool true)], args := [d] }
  | _ => none }
def baseSizesRow : OpenClaim := { program := "ytdcgddoginaioaadoor", sum := "65bf50e4e2bd919b6c3a35f256eee9b3875dac6b6a0c015c0058624c1561ce53", func := "pendentive/pendentivelaw02.BaseSizes", spec := "baseSizes", unfollowed := true, recurses := true, named := ["pendentive/base.letters"], apart := false, laid := [("pendentive/base.letters", laid_pendentive_base_letters)] }
def BaseSizesSaid : Prop := baseSizesRow.holds Tryd.pinned (OpenSpec.ofChange baseSizesSpec)

/-- ITS FALSE NEIGHBOUR: 'it returns false'. Refute it at one input. -/
def baseSizesWrong : ChangeSpec := { name := "baseSizes", fn := fun _ => fun
  | [d] => { results := [.lit (.bool false)], args := [d] }
  | _ => none }
def BaseSizesWrongFalsely : Prop := baseSizesRow.holds Tryd.pinned (OpenSpec.ofChange baseSizesWrong)

/-- 'pendentivelaw02.BaseFours': WHATEVER THE INPUT: true; the input reads as it did. -/
def baseFoursSpec : ChangeSpec := { name := "baseFours", fn := fun _ => fun
  | [d] => { results := [.lit (.bool true)], args := [d] }
  | _ => none }
def baseFoursRow : OpenClaim := { program := "ytdcgddoginaioaadoor", sum := "65bf50e4e2bd919b6c3a35f256eee9b3875dac6b6a0c015c0058624c1561ce53", func := "pendentive/pendentivelaw02.BaseFours", spec := "baseFours", unfollowed := true, recurses := true, named := ["pendentive/base.letters"], apart := false, laid := [("pendentive/base.letters", laid_pendentive_base_letters)] }
def BaseFoursSaid : Prop := baseFoursRow.holds Tryd.pinned (OpenSpec.ofChange baseFoursSpec)

/-- ITS FALSE NEIGHBOUR: 'it returns false'. Refute it at one input. -/
def baseFoursWrong : ChangeSpec := { name := "baseFours", fn := fun _ => fun
  | [d] => { results := [.lit (.bool false)], args := [d] }
  | _ => none }
def BaseFoursWrongFalsely : Prop := baseFoursRow.holds Tryd.pinned (OpenSpec.ofChange baseFoursWrong)

/-- 'pendentivelaw02.BaseTurned': WHATEVER THE INPUT: true; the input reads as it did. -/
def baseTurnedSpec : ChangeSpec := { name := "baseTurned", fn := fun _ => fun
  | [d1, d2, d3] => { results := [.lit (.bool true)], args := [d1, d2, d3] }
  | _ => none }
def baseTurnedRow : OpenClaim := { program := "ytdcgddoginaioaadoor", sum := "65bf50e4e2bd919b6c3a35f256eee9b3875dac6b6a0c015c0058624c1561ce53", func := "pendentive/pendentivelaw02.BaseTurned", spec := "baseTurned", unfollowed := true, recurses := true, named := ["pendentive/base.letters"], apart := false, laid := [("pendentive/base.letters", laid_pendentive_base_letters)] }
def BaseTurnedSaid : Prop := baseTurnedRow.holds Tryd.pinned (OpenSpec.ofChange baseTurnedSpec)

/-- ITS FALSE NEIGHBOUR: 'it returns false'. Refute it at one input. -/
def baseTurnedWrong : ChangeSpec := { name := "baseTurned", fn := fun _ => fun
  | [d1, d2, d3] => { results := [.lit (.bool false)], args := [d1, d2, d3] }
  | _ => none }
def BaseTurnedWrongFalsely : Prop := baseTurnedRow.holds Tryd.pinned (OpenSpec.ofChange baseTurnedWrong)

/-- 'pendentivelaw02.BaseHas': WHATEVER THE INPUT: true; the input reads as it did. -/
def baseHasSpec : ChangeSpec := { name := "baseHas", fn := fun _ => fun
  | [d] => { results := [.lit (.bool true)], args := [d] }
  | _ => none }
def baseHasRow : OpenClaim := { program := "ytdcgddoginaioaadoor", sum := "65bf50e4e2bd919b6c3a35f256eee9b3875dac6b6a0c015c0058624c1561ce53", func := "pendentive/pendentivelaw02.BaseHas", spec := "baseHas", unfollowed := true, recurses := true, named := ["pendentive/base.letters"], apart := false, laid := [("pendentive/base.letters", laid_pendentive_base_letters)] }
def BaseHasSaid : Prop := baseHasRow.holds Tryd.pinned (OpenSpec.ofChange baseHasSpec)

/-- ITS FALSE NEIGHBOUR: 'it returns false'. Refute it at one input. -/
def baseHasWrong : ChangeSpec := { name := "baseHas", fn := fun _ => fun
  | [d] => { results := [.lit (.bool false)], args := [d] }
  | _ => none }
def BaseHasWrongFalsely : Prop := baseHasRow.holds Tryd.pinned (OpenSpec.ofChange baseHasWrong)

/-- 'pendentivelaw02.BaseOnes': WHATEVER THE INPUT: true; the input reads as it did. -/
def baseOnesSpec : ChangeSpec := { name := "baseOnes", fn := fun _ => fun
  | [d1, d2] => { results := [.lit (.bool true)], args := [d1, d2] }
  | _ => none }
def baseOnesRow : OpenClaim := { program := "ytdcgddoginaioaadoor", sum := "65bf50e4e2bd919b6c3a35f256eee9b3875dac6b6a0c015c0058624c1561ce53", func := "pendentive/pendentivelaw02.BaseOnes", spec := "baseOnes", unfollowed := true, recurses := true, named := ["pendentive/base.letters"], apart := false, laid := [("pendentive/base.letters", laid_pendentive_base_letters)] }
def BaseOnesSaid : Prop := baseOnesRow.holds Tryd.pinned (OpenSpec.ofChange baseOnesSpec)

/-- ITS FALSE NEIGHBOUR: 'it returns false'. Refute it at one input. -/
def baseOnesWrong : ChangeSpec := { name := "baseOnes", fn := fun _ => fun
  | [d1, d2] => { results := [.lit (.bool false)], args := [d1, d2] }
  | _ => none }
def BaseOnesWrongFalsely : Prop := baseOnesRow.holds Tryd.pinned (OpenSpec.ofChange baseOnesWrong)

/- THE SECOND FORM. 'bulk': how many values and letters a reading holds, each counted each time it is reached (what is shared counts as often as it is met; a slice's spare places count too). A statement '..UptoSaid' is the law's where the arguments, and the package variables that the reading takes, are together of bulk at most 1048576: NARROWER than '..Said'. Prove '..Said' where nothing that the law and all that it calls make is longer than what came in: it says more and counts as full. Else prove '..UptoSaid'. A law counts once. -/
mutual
def uptoBulk {H : Type} : DataW H → Nat
  | .lit (.string bytes) => bytes.length + 1
  | .lit _ => 1
  | .nil => 1
  | .ptr d => uptoBulk d + 1
  | .slice elems spare => uptoBulkAll elems + uptoBulkAll spare + 1
  | .agg parts => uptoBulkAll parts + 1
  | .iface _ d => uptoBulk d + 1
  | .map entries => uptoBulkEntries entries + 1
  | .held _ => 1
def uptoBulkAll {H : Type} : List (DataW H) → Nat
  | [] => 0
  | d :: r => uptoBulk d + uptoBulkAll r
def uptoBulkEntries {H : Type} : List (Lit × DataW H) → Nat
  | [] => 0
  | x :: r => uptoBulkEntry x + uptoBulkEntries r
def uptoBulkEntry {H : Type} : Lit × DataW H → Nat
  | (.string bytes, d) => bytes.length + uptoBulk d + 1
  | (_, d) => uptoBulk d + 1
 end
def uptoSmall : (H : Type) → List (DataW H) → Bool := fun _ ds => decide (uptoBulkAll ds ≤ 1048576)
def OpenSpec.upto (s : _root_.Go.ChangeSpec) : _root_.Go.OpenSpec := { _root_.Go.OpenSpec.ofChange s with cond := some uptoSmall }

/-- 'pendentivelaw02.BasePuts', WHERE WHAT IT READS IS OF BULK AT MOST 1048576: true; the input reads as it did. -/
def basePutsUptoRow : OpenClaim := { program := "ytdcgddoginaioaadoor", sum := "65bf50e4e2bd919b6c3a35f256eee9b3875dac6b6a0c015c0058624c1561ce53", func := "pendentive/pendentivelaw02.BasePuts", spec := "basePuts", unfollowed := true, recurses := true, named := ["pendentive/base.letters"], apart := false, laid := [("pendentive/base.letters", laid_pendentive_base_letters)], narrowed := true }
def BasePutsUptoSaid : Prop := basePutsUptoRow.holds Tryd.pinned (OpenSpec.upto basePutsSpec)

/-- 'pendentivelaw02.BaseGets', WHERE WHAT IT READS IS OF BULK AT MOST 1048576: true; the input reads as it did. -/
def baseGetsUptoRow : OpenClaim := { program := "ytdcgddoginaioaadoor", sum := "65bf50e4e2bd919b6c3a35f256eee9b3875dac6b6a0c015c0058624c1561ce53", func := "pendentive/pendentivelaw02.BaseGets", spec := "baseGets", unfollowed := true, recurses := true, named := ["pendentive/base.letters"], apart := false, laid := [("pendentive/base.letters", laid_pendentive_base_letters)], narrowed := true }
def BaseGetsUptoSaid : Prop := baseGetsUptoRow.holds Tryd.pinned (OpenSpec.upto baseGetsSpec)

/-- 'pendentivelaw02.BaseApart', WHERE WHAT IT READS IS OF BULK AT MOST 1048576: true; the input reads as it did. -/
def baseApartUptoRow : OpenClaim := { program := "ytdcgddoginaioaadoor", sum := "65bf50e4e2bd919b6c3a35f256eee9b3875dac6b6a0c015c0058624c1561ce53", func := "pendentive/pendentivelaw02.BaseApart", spec := "baseApart", unfollowed := true, recurses := true, named := ["pendentive/base.letters"], apart := false, laid := [("pendentive/base.letters", laid_pendentive_base_letters)], narrowed := true }
def BaseApartUptoSaid : Prop := baseApartUptoRow.holds Tryd.pinned (OpenSpec.upto baseApartSpec)

/-- 'pendentivelaw02.BaseSizes', WHERE WHAT IT READS IS OF BULK AT MOST 1048576: true; the input reads as it did. -/
def baseSizesUptoRow : OpenClaim := { program := "ytdcgddoginaioaadoor", sum := "65bf50e4e2bd919b6c3a35f256eee9b3875dac6b6a0c015c0058624c1561ce53", func := "pendentive/pendentivelaw02.BaseSizes", spec := "baseSizes", unfollowed := true, recurses := true, named := ["pendentive/base.letters"], apart := false, laid := [("pendentive/base.letters", laid_pendentive_base_letters)], narrowed := true }
def BaseSizesUptoSaid : Prop := baseSizesUptoRow.holds Tryd.pinned (OpenSpec.upto baseSizesSpec)

/-- 'pendentivelaw02.BaseFours', WHERE WHAT IT READS IS OF BULK AT MOST 1048576: true; the input reads as it did. -/
def baseFoursUptoRow : OpenClaim := { program := "ytdcgddoginaioaadoor", sum := "65bf50e4e2bd919b6c3a35f256eee9b3875dac6b6a0c015c0058624c1561ce53", func := "pendentive/pendentivelaw02.BaseFours", spec := "baseFours", unfollowed := true, recurses := true, named := ["pendentive/base.letters"], apart := false, laid := [("pendentive/base.letters", laid_pendentive_base_letters)], narrowed := true }
def BaseFoursUptoSaid : Prop := baseFoursUptoRow.holds Tryd.pinned (OpenSpec.upto baseFoursSpec)

/-- 'pendentivelaw02.BaseTurned', WHERE WHAT IT READS IS OF BULK AT MOST 1048576: true; the input reads as it did. -/
def baseTurnedUptoRow : OpenClaim := { program := "ytdcgddoginaioaadoor", sum := "65bf50e4e2bd919b6c3a35f256eee9b3875dac6b6a0c015c0058624c1561ce53", func := "pendentive/pendentivelaw02.BaseTurned", spec := "baseTurned", unfollowed := true, recurses := true, named := ["pendentive/base.letters"], apart := false, laid := [("pendentive/base.letters", laid_pendentive_base_letters)], narrowed := true }
def BaseTurnedUptoSaid : Prop := baseTurnedUptoRow.holds Tryd.pinned (OpenSpec.upto baseTurnedSpec)

/-- 'pendentivelaw02.BaseHas', WHERE WHAT IT READS IS OF BULK AT MOST 1048576: true; the input reads as it did. -/
def baseHasUptoRow : OpenClaim := { program := "ytdcgddoginaioaadoor", sum := "65bf50e4e2bd919b6c3a35f256eee9b3875dac6b6a0c015c0058624c1561ce53", func := "pendentive/pendentivelaw02.BaseHas", spec := "baseHas", unfollowed := true, recurses := true, named := ["pendentive/base.letters"], apart := false, laid := [("pendentive/base.letters", laid_pendentive_base_letters)], narrowed := true }
def BaseHasUptoSaid : Prop := baseHasUptoRow.holds Tryd.pinned (OpenSpec.upto baseHasSpec)

/-- 'pendentivelaw02.BaseOnes', WHERE WHAT IT READS IS OF BULK AT MOST 1048576: true; the input reads as it did. -/
def baseOnesUptoRow : OpenClaim := { program := "ytdcgddoginaioaadoor", sum := "65bf50e4e2bd919b6c3a35f256eee9b3875dac6b6a0c015c0058624c1561ce53", func := "pendentive/pendentivelaw02.BaseOnes", spec := "baseOnes", unfollowed := true, recurses := true, named := ["pendentive/base.letters"], apart := false, laid := [("pendentive/base.letters", laid_pendentive_base_letters)], narrowed := true }
def BaseOnesUptoSaid : Prop := baseOnesUptoRow.holds Tryd.pinned (OpenSpec.upto baseOnesSpec)

end Rows
end Go.Proofs.YtdcgddoginaioaaDoor
