/-
  NARROWER THAN 'FOR EVERY INPUT', by the rows' own cells (each row's printed sentence says how): ShakeQuestion: laid · ShakeAnswer: laid · ShakeAsk: laid · ShakeCheck: laid · ShakeBoth: laid · ShakeCase: laid · ShakeMore: laid · ShakeStatus: laid · ShakeAllows: laid.
  DERIVED. THE GIVEN ROWS OF THIS SEAT. 9 by the template 'for every input the law returns true; each argument reads behind the call as it read before'; 0 by the template 'total and deterministic' (their statements: YthlagngpllahkaaGreatDoorTotals.lean).
  GIVEN WITH THE SEED: the statements are not yours to turn. If you find one false, say at which input.
  Laid BY PROGRAM, IN A SANDBOX (cutbox-rows.mjs): the forced cells as the released guide's own fill.sh prints them over the translation cf3392539a5e75f1… (all of the seat's roots in one cut). By AI agents, Wed Nov 11 2026. No macro, syntax, notation, axiom, sorry.
-/
import Derived.Test.YthlagngpllahkaaGreatDoorChecked
import GoSem.PinnedTables
import GoSem.Claim
import GoSem.ClaimJoined
import GoSem.ClaimMapViews
import Derived.JoinedTies
import Derived.KernelRfl
namespace Go.Proofs.YthlagngpllahkaaGreatDoor
/- THE CELL 'sum', in the pinned program and in every row, IS THE sha256 OF THE DUMP (.gsa) THAT YthlagngpllahkaaGreatDoorProg.lean LOADS. Nothing in Lean hashes anything: it is a label: what it is worth is what the hold of that sum in a sandbox is worth. -/
noncomputable def Tryz.pinned : Pinned := { name := "ythlagngpllahkaagreatdoor", sum := "cf3392539a5e75f1dc88918b65b08d470f028b1e3ea2e111d994efb1c5d6836b", checked := Tryz.checked }
namespace Rows
def none {H : Type} : Left H := { results := [], args := [] }

/- WHAT THE LISTED PACKAGE-LEVEL VARIABLES READ AS WHEN THE CALL BEGINS. Each datum BY PROGRAM (the guide's laid-datum.mjs) off the statement by which the dump's own 'gosem.cut.vars' lays the variable. In a bare row this is a premise. The card (YthlagngpllahkaaGreatDoorCards.lean) ties it to the program's text. -/
def laid_math_bits_deBruijn32tab {H : Type} : DataW H := .agg [.lit (.int .u8 0), .lit (.int .u8 1), .lit (.int .u8 28), .lit (.int .u8 2), .lit (.int .u8 29), .lit (.int .u8 14), .lit (.int .u8 24), .lit (.int .u8 3), .lit (.int .u8 30), .lit (.int .u8 22), .lit (.int .u8 20), .lit (.int .u8 15), .lit (.int .u8 25), .lit (.int .u8 17), .lit (.int .u8 4), .lit (.int .u8 8), .lit (.int .u8 31), .lit (.int .u8 27), .lit (.int .u8 13), .lit (.int .u8 23), .lit (.int .u8 21), .lit (.int .u8 19), .lit (.int .u8 16), .lit (.int .u8 7), .lit (.int .u8 26), .lit (.int .u8 12), .lit (.int .u8 18), .lit (.int .u8 6), .lit (.int .u8 11), .lit (.int .u8 5), .lit (.int .u8 10), .lit (.int .u8 9)]
def laid_math_bits_deBruijn64tab {H : Type} : DataW H := .agg [.lit (.int .u8 0), .lit (.int .u8 1), .lit (.int .u8 56), .lit (.int .u8 2), .lit (.int .u8 57), .lit (.int .u8 49), .lit (.int .u8 28), .lit (.int .u8 3), .lit (.int .u8 61), .lit (.int .u8 58), .lit (.int .u8 42), .lit (.int .u8 50), .lit (.int .u8 38), .lit (.int .u8 29), .lit (.int .u8 17), .lit (.int .u8 4), .lit (.int .u8 62), .lit (.int .u8 47), .lit (.int .u8 59), .lit (.int .u8 36), .lit (.int .u8 45), .lit (.int .u8 43), .lit (.int .u8 51), .lit (.int .u8 22), .lit (.int .u8 53), .lit (.int .u8 39), .lit (.int .u8 33), .lit (.int .u8 30), .lit (.int .u8 24), .lit (.int .u8 18), .lit (.int .u8 12), .lit (.int .u8 5), .lit (.int .u8 63), .lit (.int .u8 55), .lit (.int .u8 48), .lit (.int .u8 27), .lit (.int .u8 60), .lit (.int .u8 41), .lit (.int .u8 37), .lit (.int .u8 16), .lit (.int .u8 46), .lit (.int .u8 35), .lit (.int .u8 44), .lit (.int .u8 21), .lit (.int .u8 52), .lit (.int .u8 32), .lit (.int .u8 23), .lit (.int .u8 11), .lit (.int .u8 54), .lit (.int .u8 26), .lit (.int .u8 40), .lit (.int .u8 15), .lit (.int .u8 34), .lit (.int .u8 20), .lit (.int .u8 31), .lit (.int .u8 10), .lit (.int .u8 25), .lit (.int .u8 14), .lit (.int .u8 19), .lit (.int .u8 9), .lit (.int .u8 13), .lit (.int .u8 8), .lit (.int .u8 7), .lit (.int .u8 6)]
def laid_internal_strconv_uint64pow10 {H : Type} : DataW H := .agg [.lit (.int .u64 1), .lit (.int .u64 10), .lit (.int .u64 100), .lit (.int .u64 1000), .lit (.int .u64 10000), .lit (.int .u64 100000), .lit (.int .u64 1000000), .lit (.int .u64 10000000), .lit (.int .u64 100000000), .lit (.int .u64 1000000000), .lit (.int .u64 10000000000), .lit (.int .u64 100000000000), .lit (.int .u64 1000000000000), .lit (.int .u64 10000000000000), .lit (.int .u64 100000000000000), .lit (.int .u64 1000000000000000), .lit (.int .u64 10000000000000000), .lit (.int .u64 100000000000000000), .lit (.int .u64 1000000000000000000), .lit (.int .u64 10000000000000000000)]
def laid_pendentive_sha_startParts {H : Type} : DataW H := .agg [.lit (.int .u32 1732584193), .lit (.int .u32 4023233417), .lit (.int .u32 2562383102), .lit (.int .u32 271733878), .lit (.int .u32 3285377520)]
def laid_pendentive_sha_roundNumbers {H : Type} : DataW H := .agg [.lit (.int .u32 1518500249), .lit (.int .u32 1859775393), .lit (.int .u32 2400959708), .lit (.int .u32 3395469782)]
def laid_unicode_utf8_acceptRanges {H : Type} : DataW H := .agg [.agg [.lit (.int .u8 128), .lit (.int .u8 191)], .agg [.lit (.int .u8 160), .lit (.int .u8 191)], .agg [.lit (.int .u8 128), .lit (.int .u8 159)], .agg [.lit (.int .u8 144), .lit (.int .u8 191)], .agg [.lit (.int .u8 128), .lit (.int .u8 143)], .agg [.lit (.int .u8 0), .lit (.int .u8 0)], .agg [.lit (.int .u8 0), .lit (.int .u8 0)], .agg [.lit (.int .u8 0), .lit (.int .u8 0)], .agg [.lit (.int .u8 0), .lit (.int .u8 0)], .agg [.lit (.int .u8 0), .lit (.int .u8 0)], .agg [.lit (.int .u8 0), .lit (.int .u8 0)], .agg [.lit (.int .u8 0), .lit (.int .u8 0)], .agg [.lit (.int .u8 0), .lit (.int .u8 0)], .agg [.lit (.int .u8 0), .lit (.int .u8 0)], .agg [.lit (.int .u8 0), .lit (.int .u8 0)], .agg [.lit (.int .u8 0), .lit (.int .u8 0)]]
def laid_pendentive_base_letters {H : Type} : DataW H := .agg [.lit (.int .u8 65), .lit (.int .u8 66), .lit (.int .u8 67), .lit (.int .u8 68), .lit (.int .u8 69), .lit (.int .u8 70), .lit (.int .u8 71), .lit (.int .u8 72), .lit (.int .u8 73), .lit (.int .u8 74), .lit (.int .u8 75), .lit (.int .u8 76), .lit (.int .u8 77), .lit (.int .u8 78), .lit (.int .u8 79), .lit (.int .u8 80), .lit (.int .u8 81), .lit (.int .u8 82), .lit (.int .u8 83), .lit (.int .u8 84), .lit (.int .u8 85), .lit (.int .u8 86), .lit (.int .u8 87), .lit (.int .u8 88), .lit (.int .u8 89), .lit (.int .u8 90), .lit (.int .u8 97), .lit (.int .u8 98), .lit (.int .u8 99), .lit (.int .u8 100), .lit (.int .u8 101), .lit (.int .u8 102), .lit (.int .u8 103), .lit (.int .u8 104), .lit (.int .u8 105), .lit (.int .u8 106), .lit (.int .u8 107), .lit (.int .u8 108), .lit (.int .u8 109), .lit (.int .u8 110), .lit (.int .u8 111), .lit (.int .u8 112), .lit (.int .u8 113), .lit (.int .u8 114), .lit (.int .u8 115), .lit (.int .u8 116), .lit (.int .u8 117), .lit (.int .u8 118), .lit (.int .u8 119), .lit (.int .u8 120), .lit (.int .u8 121), .lit (.int .u8 122), .lit (.int .u8 48), .lit (.int .u8 49), .lit (.int .u8 50), .lit (.int .u8 51), .lit (.int .u8 52), .lit (.int .u8 53), .lit (.int .u8 54), .lit (.int .u8 55), .lit (.int .u8 56), .lit (.int .u8 57), .lit (.int .u8 43), .lit (.int .u8 47)]
def laid_pendentive_head_tokenSpans {H : Type} : DataW H := .agg [.agg [.lit (.int .u8 97), .lit (.int .u8 122)], .agg [.lit (.int .u8 65), .lit (.int .u8 90)], .agg [.lit (.int .u8 48), .lit (.int .u8 57)]]
/-- One of Go's own tables, pinned by name: the form's constant. -/
def laid_unicode_utf8_first : DataW Unit := Go.Pinned.utf8First

/-- 'pendentivelaw07.ShakeQuestion': WHATEVER THE INPUT: true; the input reads as it did. -/
def shakeQuestionSpec : ChangeSpec := { name := "shakeQuestion", fn := fun _ => fun
  | [d] => { results := [.lit (.bool true)], args := [d] }
  | _ => none }
def shakeQuestionRow : OpenClaim := { program := "ythlagngpllahkaagreatdoor", sum := "cf3392539a5e75f1dc88918b65b08d470f028b1e3ea2e111d994efb1c5d6836b", func := "pendentive/pendentivelaw07.ShakeQuestion", spec := "shakeQuestion", inPlace := ["internal/bytealg.IndexByteString", "internal/abi.NoEscape", "internal/bytealg.MakeNoZero", "internal/bytealg.IndexString"], unfollowed := true, recurses := true, named := ["pendentive/head.tokenSpans", "unicode/utf8.first", "unicode/utf8.acceptRanges", "internal/bytealg.MaxLen", "pendentive/sha.startParts", "pendentive/sha.roundNumbers", "pendentive/base.letters", "internal/strconv.uint64pow10", "math/bits.deBruijn32tab", "math/bits.deBruijn64tab"], apart := false, laid := [("math/bits.deBruijn32tab", laid_math_bits_deBruijn32tab), ("math/bits.deBruijn64tab", laid_math_bits_deBruijn64tab), ("internal/strconv.uint64pow10", laid_internal_strconv_uint64pow10), ("pendentive/sha.startParts", laid_pendentive_sha_startParts), ("pendentive/sha.roundNumbers", laid_pendentive_sha_roundNumbers), ("unicode/utf8.acceptRanges", laid_unicode_utf8_acceptRanges), ("pendentive/base.letters", laid_pendentive_base_letters), ("pendentive/head.tokenSpans", laid_pendentive_head_tokenSpans), ("unicode/utf8.first", laid_unicode_utf8_first)] }
def ShakeQuestionSaid : Prop := shakeQuestionRow.holds Tryz.pinned (OpenSpec.ofChange shakeQuestionSpec)

/-- ITS FALSE NEIGHBOUR: 'it returns false'. Refute it at one input. -/
def shakeQuestionWrong : ChangeSpec := { name := "shakeQuestion", fn := fun _ => fun
  | [d] => { results := [.lit (.bool false)], args := [d] }
  | _ => none }
def ShakeQuestionWrongFalsely : Prop := shakeQuestionRow.holds Tryz.pinned (OpenSpec.ofChange shakeQuestionWrong)

/-- 'pendentivelaw07.ShakeAnswer': WHATEVER THE INPUT: true; the input reads as it did. -/
def shakeAnswerSpec : ChangeSpec := { name := "shakeAnswer", fn := fun _ => fun
  | [d1, d2, d3, d4, d5] => { results := [.lit (.bool true)], args := [d1, d2, d3, d4, d5] }
  | _ => none }
def shakeAnswerRow : OpenClaim := { program := "ythlagngpllahkaagreatdoor", sum := "cf3392539a5e75f1dc88918b65b08d470f028b1e3ea2e111d994efb1c5d6836b", func := "pendentive/pendentivelaw07.ShakeAnswer", spec := "shakeAnswer", inPlace := ["internal/bytealg.IndexByteString", "internal/abi.NoEscape", "internal/bytealg.MakeNoZero", "internal/bytealg.IndexString"], unfollowed := true, recurses := true, named := ["pendentive/head.tokenSpans", "unicode/utf8.first", "unicode/utf8.acceptRanges", "internal/bytealg.MaxLen", "pendentive/sha.startParts", "pendentive/sha.roundNumbers", "pendentive/base.letters", "internal/strconv.uint64pow10", "math/bits.deBruijn32tab", "math/bits.deBruijn64tab"], apart := false, laid := [("math/bits.deBruijn32tab", laid_math_bits_deBruijn32tab), ("math/bits.deBruijn64tab", laid_math_bits_deBruijn64tab), ("internal/strconv.uint64pow10", laid_internal_strconv_uint64pow10), ("pendentive/sha.startParts", laid_pendentive_sha_startParts), ("pendentive/sha.roundNumbers", laid_pendentive_sha_roundNumbers), ("unicode/utf8.acceptRanges", laid_unicode_utf8_acceptRanges), ("pendentive/base.letters", laid_pendentive_base_letters), ("pendentive/head.tokenSpans", laid_pendentive_head_tokenSpans), ("unicode/utf8.first", laid_unicode_utf8_first)] }
def ShakeAnswerSaid : Prop := shakeAnswerRow.holds Tryz.pinned (OpenSpec.ofChange shakeAnswerSpec)

/-- ITS FALSE NEIGHBOUR: 'it returns false'. Refute it at one input. -/
def shakeAnswerWrong : ChangeSpec := { name := "shakeAnswer", fn := fun _ => fun
  | [d1, d2, d3, d4, d5] => { results := [.lit (.bool false)], args := [d1, d2, d3, d4, d5] }
  | _ => none }
def ShakeAnswerWrongFalsely : Prop := shakeAnswerRow.holds Tryz.pinned (OpenSpec.ofChange shakeAnswerWrong)

/-- 'pendentivelaw07.ShakeAsk': WHATEVER THE INPUT: true; the input reads as it did. -/
def shakeAskSpec : ChangeSpec := { name := "shakeAsk", fn := fun _ => fun
  | [d1, d2, d3, d4] => { results := [.lit (.bool true)], args := [d1, d2, d3, d4] }
  | _ => none }
def shakeAskRow : OpenClaim := { program := "ythlagngpllahkaagreatdoor", sum := "cf3392539a5e75f1dc88918b65b08d470f028b1e3ea2e111d994efb1c5d6836b", func := "pendentive/pendentivelaw07.ShakeAsk", spec := "shakeAsk", inPlace := ["internal/bytealg.IndexByteString", "internal/abi.NoEscape", "internal/bytealg.MakeNoZero", "internal/bytealg.IndexString"], unfollowed := true, recurses := true, named := ["pendentive/head.tokenSpans", "unicode/utf8.first", "unicode/utf8.acceptRanges", "internal/bytealg.MaxLen", "pendentive/sha.startParts", "pendentive/sha.roundNumbers", "pendentive/base.letters", "internal/strconv.uint64pow10", "math/bits.deBruijn32tab", "math/bits.deBruijn64tab"], apart := false, laid := [("math/bits.deBruijn32tab", laid_math_bits_deBruijn32tab), ("math/bits.deBruijn64tab", laid_math_bits_deBruijn64tab), ("internal/strconv.uint64pow10", laid_internal_strconv_uint64pow10), ("pendentive/sha.startParts", laid_pendentive_sha_startParts), ("pendentive/sha.roundNumbers", laid_pendentive_sha_roundNumbers), ("unicode/utf8.acceptRanges", laid_unicode_utf8_acceptRanges), ("pendentive/base.letters", laid_pendentive_base_letters), ("pendentive/head.tokenSpans", laid_pendentive_head_tokenSpans), ("unicode/utf8.first", laid_unicode_utf8_first)] }
def ShakeAskSaid : Prop := shakeAskRow.holds Tryz.pinned (OpenSpec.ofChange shakeAskSpec)

/-- ITS FALSE NEIGHBOUR: 'it returns false'. Refute it at one input. -/
def shakeAskWrong : ChangeSpec := { name := "shakeAsk", fn := fun _ => fun
  | [d1, d2, d3, d4] => { results := [.lit (.bool false)], args := [d1, d2, d3, d4] }
  | _ => none }
def ShakeAskWrongFalsely : Prop := shakeAskRow.holds Tryz.pinned (OpenSpec.ofChange shakeAskWrong)

/-- 'pendentivelaw07.ShakeCheck': WHATEVER THE INPUT: true; the input reads as it did. -/
def shakeCheckSpec : ChangeSpec := { name := "shakeCheck", fn := fun _ => fun
  | [d1, d2, d3] => { results := [.lit (.bool true)], args := [d1, d2, d3] }
  | _ => none }
def shakeCheckRow : OpenClaim := { program := "ythlagngpllahkaagreatdoor", sum := "cf3392539a5e75f1dc88918b65b08d470f028b1e3ea2e111d994efb1c5d6836b", func := "pendentive/pendentivelaw07.ShakeCheck", spec := "shakeCheck", inPlace := ["internal/bytealg.IndexByteString", "internal/abi.NoEscape", "internal/bytealg.MakeNoZero", "internal/bytealg.IndexString"], unfollowed := true, recurses := true, named := ["pendentive/head.tokenSpans", "unicode/utf8.first", "unicode/utf8.acceptRanges", "internal/bytealg.MaxLen", "pendentive/sha.startParts", "pendentive/sha.roundNumbers", "pendentive/base.letters", "internal/strconv.uint64pow10", "math/bits.deBruijn32tab", "math/bits.deBruijn64tab"], apart := false, laid := [("math/bits.deBruijn32tab", laid_math_bits_deBruijn32tab), ("math/bits.deBruijn64tab", laid_math_bits_deBruijn64tab), ("internal/strconv.uint64pow10", laid_internal_strconv_uint64pow10), ("pendentive/sha.startParts", laid_pendentive_sha_startParts), ("pendentive/sha.roundNumbers", laid_pendentive_sha_roundNumbers), ("unicode/utf8.acceptRanges", laid_unicode_utf8_acceptRanges), ("pendentive/base.letters", laid_pendentive_base_letters), ("pendentive/head.tokenSpans", laid_pendentive_head_tokenSpans), ("unicode/utf8.first", laid_unicode_utf8_first)] }
def ShakeCheckSaid : Prop := shakeCheckRow.holds Tryz.pinned (OpenSpec.ofChange shakeCheckSpec)

/-- ITS FALSE NEIGHBOUR: 'it returns false'. Refute it at one input. -/
def shakeCheckWrong : ChangeSpec := { name := "shakeCheck", fn := fun _ => fun
  | [d1, d2, d3] => { results := [.lit (.bool false)], args := [d1, d2, d3] }
  | _ => none }
def ShakeCheckWrongFalsely : Prop := shakeCheckRow.holds Tryz.pinned (OpenSpec.ofChange shakeCheckWrong)

/-- 'pendentivelaw07.ShakeBoth': WHATEVER THE INPUT: true; the input reads as it did. -/
def shakeBothSpec : ChangeSpec := { name := "shakeBoth", fn := fun _ => fun
  | [d1, d2, d3, d4, d5, d6] => { results := [.lit (.bool true)], args := [d1, d2, d3, d4, d5, d6] }
  | _ => none }
def shakeBothRow : OpenClaim := { program := "ythlagngpllahkaagreatdoor", sum := "cf3392539a5e75f1dc88918b65b08d470f028b1e3ea2e111d994efb1c5d6836b", func := "pendentive/pendentivelaw07.ShakeBoth", spec := "shakeBoth", inPlace := ["internal/bytealg.IndexByteString", "internal/abi.NoEscape", "internal/bytealg.MakeNoZero", "internal/bytealg.IndexString", "internal/bytealg.IndexByte", "internal/bytealg.Index", "internal/bytealg.CountString"], unfollowed := true, recurses := true, named := ["pendentive/head.tokenSpans", "unicode/utf8.first", "unicode/utf8.acceptRanges", "internal/bytealg.MaxLen", "pendentive/sha.startParts", "pendentive/sha.roundNumbers", "pendentive/base.letters", "internal/strconv.uint64pow10", "math/bits.deBruijn32tab", "math/bits.deBruijn64tab"], apart := false, laid := [("math/bits.deBruijn32tab", laid_math_bits_deBruijn32tab), ("math/bits.deBruijn64tab", laid_math_bits_deBruijn64tab), ("internal/strconv.uint64pow10", laid_internal_strconv_uint64pow10), ("pendentive/sha.startParts", laid_pendentive_sha_startParts), ("pendentive/sha.roundNumbers", laid_pendentive_sha_roundNumbers), ("unicode/utf8.acceptRanges", laid_unicode_utf8_acceptRanges), ("pendentive/base.letters", laid_pendentive_base_letters), ("pendentive/head.tokenSpans", laid_pendentive_head_tokenSpans), ("unicode/utf8.first", laid_unicode_utf8_first)] }
def ShakeBothSaid : Prop := shakeBothRow.holds Tryz.pinned (OpenSpec.ofChange shakeBothSpec)

/-- ITS FALSE NEIGHBOUR: 'it returns false'. Refute it at one input. -/
def shakeBothWrong : ChangeSpec := { name := "shakeBoth", fn := fun _ => fun
  | [d1, d2, d3, d4, d5, d6] => { results := [.lit (.bool false)], args := [d1, d2, d3, d4, d5, d6] }
  | _ => none }
def ShakeBothWrongFalsely : Prop := shakeBothRow.holds Tryz.pinned (OpenSpec.ofChange shakeBothWrong)

/-- 'pendentivelaw07.ShakeCase': WHATEVER THE INPUT: true; the input reads as it did. -/
def shakeCaseSpec : ChangeSpec := { name := "shakeCase", fn := fun _ => fun
  | [d1, d2, d3] => { results := [.lit (.bool true)], args := [d1, d2, d3] }
  | _ => none }
def shakeCaseRow : OpenClaim := { program := "ythlagngpllahkaagreatdoor", sum := "cf3392539a5e75f1dc88918b65b08d470f028b1e3ea2e111d994efb1c5d6836b", func := "pendentive/pendentivelaw07.ShakeCase", spec := "shakeCase", inPlace := ["internal/bytealg.IndexByteString", "internal/abi.NoEscape", "internal/bytealg.MakeNoZero", "internal/bytealg.IndexString"], unfollowed := true, recurses := true, named := ["pendentive/head.tokenSpans", "unicode/utf8.first", "unicode/utf8.acceptRanges", "internal/bytealg.MaxLen", "pendentive/sha.startParts", "pendentive/sha.roundNumbers", "pendentive/base.letters", "internal/strconv.uint64pow10", "math/bits.deBruijn32tab", "math/bits.deBruijn64tab"], apart := false, laid := [("math/bits.deBruijn32tab", laid_math_bits_deBruijn32tab), ("math/bits.deBruijn64tab", laid_math_bits_deBruijn64tab), ("internal/strconv.uint64pow10", laid_internal_strconv_uint64pow10), ("pendentive/sha.startParts", laid_pendentive_sha_startParts), ("pendentive/sha.roundNumbers", laid_pendentive_sha_roundNumbers), ("unicode/utf8.acceptRanges", laid_unicode_utf8_acceptRanges), ("pendentive/base.letters", laid_pendentive_base_letters), ("pendentive/head.tokenSpans", laid_pendentive_head_tokenSpans), ("unicode/utf8.first", laid_unicode_utf8_first)] }
def ShakeCaseSaid : Prop := shakeCaseRow.holds Tryz.pinned (OpenSpec.ofChange shakeCaseSpec)

/-- ITS FALSE NEIGHBOUR: 'it returns false'. Refute it at one input. -/
def shakeCaseWrong : ChangeSpec := { name := "shakeCase", fn := fun _ => fun
  | [d1, d2, d3] => { results := [.lit (.bool false)], args := [d1, d2, d3] }
  | _ => none }
def ShakeCaseWrongFalsely : Prop := shakeCaseRow.holds Tryz.pinned (OpenSpec.ofChange shakeCaseWrong)

/-- 'pendentivelaw07.ShakeMore': WHATEVER THE INPUT: true; the input reads as it did. -/
def shakeMoreSpec : ChangeSpec := { name := "shakeMore", fn := fun _ => fun
  | [d1, d2, d3] => { results := [.lit (.bool true)], args := [d1, d2, d3] }
  | _ => none }
def shakeMoreRow : OpenClaim := { program := "ythlagngpllahkaagreatdoor", sum := "cf3392539a5e75f1dc88918b65b08d470f028b1e3ea2e111d994efb1c5d6836b", func := "pendentive/pendentivelaw07.ShakeMore", spec := "shakeMore", inPlace := ["internal/bytealg.IndexByteString", "internal/abi.NoEscape", "internal/bytealg.MakeNoZero", "internal/bytealg.IndexString"], unfollowed := true, recurses := true, named := ["pendentive/head.tokenSpans", "unicode/utf8.first", "unicode/utf8.acceptRanges", "internal/bytealg.MaxLen", "pendentive/sha.startParts", "pendentive/sha.roundNumbers", "pendentive/base.letters", "internal/strconv.uint64pow10", "math/bits.deBruijn32tab", "math/bits.deBruijn64tab"], apart := false, laid := [("math/bits.deBruijn32tab", laid_math_bits_deBruijn32tab), ("math/bits.deBruijn64tab", laid_math_bits_deBruijn64tab), ("internal/strconv.uint64pow10", laid_internal_strconv_uint64pow10), ("pendentive/sha.startParts", laid_pendentive_sha_startParts), ("pendentive/sha.roundNumbers", laid_pendentive_sha_roundNumbers), ("unicode/utf8.acceptRanges", laid_unicode_utf8_acceptRanges), ("pendentive/base.letters", laid_pendentive_base_letters), ("pendentive/head.tokenSpans", laid_pendentive_head_tokenSpans), ("unicode/utf8.first", laid_unicode_utf8_first)] }
def ShakeMoreSaid : Prop := shakeMoreRow.holds Tryz.pinned (OpenSpec.ofChange shakeMoreSpec)

/-- ITS FALSE NEIGHBOUR: 'it returns false'. Refute it at one input. -/
def shakeMoreWrong : ChangeSpec := { name := "shakeMore", fn := fun _ => fun
  | [d1, d2, d3] => { results := [.lit (.bool false)], args := [d1, d2, d3] }
  | _ => none }
def ShakeMoreWrongFalsely : Prop := shakeMoreRow.holds Tryz.pinned (OpenSpec.ofChange shakeMoreWrong)

/-- 'pendentivelaw07.ShakeStatus': WHATEVER THE INPUT: true; the input reads as it did. -/
def shakeStatusSpec : ChangeSpec := { name := "shakeStatus", fn := fun _ => fun
  | [d] => { results := [.lit (.bool true)], args := [d] }
  | _ => none }
def shakeStatusRow : OpenClaim := { program := "ythlagngpllahkaagreatdoor", sum := "cf3392539a5e75f1dc88918b65b08d470f028b1e3ea2e111d994efb1c5d6836b", func := "pendentive/pendentivelaw07.ShakeStatus", spec := "shakeStatus", inPlace := ["internal/bytealg.IndexByteString", "internal/bytealg.IndexString", "internal/abi.NoEscape", "internal/bytealg.MakeNoZero"], unfollowed := true, recurses := true, named := ["internal/strconv.uint64pow10", "math/bits.deBruijn32tab", "math/bits.deBruijn64tab", "pendentive/head.tokenSpans", "unicode/utf8.first", "unicode/utf8.acceptRanges", "internal/bytealg.MaxLen", "pendentive/sha.startParts", "pendentive/sha.roundNumbers", "pendentive/base.letters"], apart := false, laid := [("math/bits.deBruijn32tab", laid_math_bits_deBruijn32tab), ("math/bits.deBruijn64tab", laid_math_bits_deBruijn64tab), ("internal/strconv.uint64pow10", laid_internal_strconv_uint64pow10), ("pendentive/sha.startParts", laid_pendentive_sha_startParts), ("pendentive/sha.roundNumbers", laid_pendentive_sha_roundNumbers), ("unicode/utf8.acceptRanges", laid_unicode_utf8_acceptRanges), ("pendentive/base.letters", laid_pendentive_base_letters), ("pendentive/head.tokenSpans", laid_pendentive_head_tokenSpans), ("unicode/utf8.first", laid_unicode_utf8_first)] }
def ShakeStatusSaid : Prop := shakeStatusRow.holds Tryz.pinned (OpenSpec.ofChange shakeStatusSpec)

/-- ITS FALSE NEIGHBOUR: 'it returns false'. Refute it at one input. -/
def shakeStatusWrong : ChangeSpec := { name := "shakeStatus", fn := fun _ => fun
  | [d] => { results := [.lit (.bool false)], args := [d] }
  | _ => none }
def ShakeStatusWrongFalsely : Prop := shakeStatusRow.holds Tryz.pinned (OpenSpec.ofChange shakeStatusWrong)

/-- 'pendentivelaw07.ShakeAllows': WHATEVER THE INPUT: true; the input reads as it did. -/
def shakeAllowsSpec : ChangeSpec := { name := "shakeAllows", fn := fun _ => fun
  | [d1, d2, d3] => { results := [.lit (.bool true)], args := [d1, d2, d3] }
  | _ => none }
def shakeAllowsRow : OpenClaim := { program := "ythlagngpllahkaagreatdoor", sum := "cf3392539a5e75f1dc88918b65b08d470f028b1e3ea2e111d994efb1c5d6836b", func := "pendentive/pendentivelaw07.ShakeAllows", spec := "shakeAllows", inPlace := ["internal/bytealg.IndexByteString", "internal/abi.NoEscape", "internal/bytealg.MakeNoZero", "internal/bytealg.IndexString"], unfollowed := true, recurses := true, named := ["pendentive/head.tokenSpans", "unicode/utf8.first", "unicode/utf8.acceptRanges", "internal/bytealg.MaxLen", "pendentive/sha.startParts", "pendentive/sha.roundNumbers", "pendentive/base.letters", "internal/strconv.uint64pow10", "math/bits.deBruijn32tab", "math/bits.deBruijn64tab"], apart := false, laid := [("math/bits.deBruijn32tab", laid_math_bits_deBruijn32tab), ("math/bits.deBruijn64tab", laid_math_bits_deBruijn64tab), ("internal/strconv.uint64pow10", laid_internal_strconv_uint64pow10), ("pendentive/sha.startParts", laid_pendentive_sha_startParts), ("pendentive/sha.roundNumbers", laid_pendentive_sha_roundNumbers), ("unicode/utf8.acceptRanges", laid_unicode_utf8_acceptRanges), ("pendentive/base.letters", laid_pendentive_base_letters), ("pendentive/head.tokenSpans", laid_pendentive_head_tokenSpans), ("unicode/utf8.first", laid_unicode_utf8_first)] }
def ShakeAllowsSaid : Prop := shakeAllowsRow.holds Tryz.pinned (OpenSpec.ofChange shakeAllowsSpec)

/-- ITS FALSE NEIGHBOUR: 'it returns false'. Refute it at one input. -/
def shakeAllowsWrong : ChangeSpec := { name := "shakeAllows", fn := fun _ => fun
  | [d1, d2, d3] => { results := [.lit (.bool false)], args := [d1, d2, d3] }
  | _ => none }
def ShakeAllowsWrongFalsely : Prop := shakeAllowsRow.holds Tryz.pinned (OpenSpec.ofChange shakeAllowsWrong)

/- THE SECOND FORM. 'bulk': how many values and letters a reading holds, each counted each time it is reached (what is shared counts as often as it is met; a slice's spare places count too). A statement '..UptoSaid' is the law's where the arguments, and the package variables that the reading takes, are together of bulk at most 1048576: NARROWER than '..Said'. Prove '..Said' where nothing that the law and all that it calls make is longer than what came in: it says more and counts as full. Else prove '..UptoSaid'. A law counts once. -/
mutual
def uptoBulk {H : Type} : DataW H → Nat
  | .lit (.string bytes) => bytes.length + 1
  | .lit _ => 1
  | .nil => 1
  | .ptr d => uptoBulk d + 1
  | .slice elems spare => uptoBulkAll elems + uptoBulkAll spare + 1
  | .agg parts => uptoBulkAll parts + 1
  | .iface _ d => uptoBulk d + 1
  | .map entries => uptoBulkEntries entries + 1
  | .held _ => 1
def uptoBulkAll {H : Type} : List (DataW H) → Nat
  | [] => 0
  | d :: r => uptoBulk d + uptoBulkAll r
def uptoBulkEntries {H : Type} : List (Lit × DataW H) → Nat
  | [] => 0
  | x :: r => uptoBulkEntry x + uptoBulkEntries r
def uptoBulkEntry {H : Type} : Lit × DataW H → Nat
  | (.string bytes, d) => bytes.length + uptoBulk d + 1
  | (_, d) => uptoBulk d + 1
 end
def uptoSmall : (H : Type) → List (DataW H) → Bool := fun _ ds => decide (uptoBulkAll ds ≤ 1048576)
def OpenSpec.upto (s : _root_.Go.ChangeSpec) : _root_.Go.OpenSpec := { _root_.Go.OpenSpec.ofChange s with cond := some uptoSmall }

/-- 'pendentivelaw07.ShakeQuestion', WHERE WHAT IT READS IS OF BULK AT MOST 1048576: true; the input reads as it did. -/
def shakeQuestionUptoRow : OpenClaim := { program := "ythlagngpllahkaagreatdoor", sum := "cf3392539a5e75f1dc88918b65b08d470f028b1e3ea2e111d994efb1c5d6836b", func := "pendentive/pendentivelaw07.ShakeQuestion", spec := "shakeQuestion", inPlace := ["internal/bytealg.IndexByteString", "internal/abi.NoEscape", "internal/bytealg.MakeNoZero", "internal/bytealg.IndexString"], unfollowed := true, recurses := true, named := ["pendentive/head.tokenSpans", "unicode/utf8.first", "unicode/utf8.acceptRanges", "internal/bytealg.MaxLen", "pendentive/sha.startParts", "pendentive/sha.roundNumbers", "pendentive/base.letters", "internal/strconv.uint64pow10", "math/bits.deBruijn32tab", "math/bits.deBruijn64tab"], apart := false, laid := [("math/bits.deBruijn32tab", laid_math_bits_deBruijn32tab), ("math/bits.deBruijn64tab", laid_math_bits_deBruijn64tab), ("internal/strconv.uint64pow10", laid_internal_strconv_uint64pow10), ("pendentive/sha.startParts", laid_pendentive_sha_startParts), ("pendentive/sha.roundNumbers", laid_pendentive_sha_roundNumbers), ("unicode/utf8.acceptRanges", laid_unicode_utf8_acceptRanges), ("pendentive/base.letters", laid_pendentive_base_letters), ("pendentive/head.tokenSpans", laid_pendentive_head_tokenSpans), ("unicode/utf8.first", laid_unicode_utf8_first)], narrowed := true }
def ShakeQuestionUptoSaid : Prop := shakeQuestionUptoRow.holds Tryz.pinned (OpenSpec.upto shakeQuestionSpec)

/-- 'pendentivelaw07.ShakeAnswer', WHERE WHAT IT READS IS OF BULK AT MOST 1048576: true; the input reads as it did. -/
def shakeAnswerUptoRow : OpenClaim := { program := "ythlagngpllahkaagreatdoor", sum := "cf3392539a5e75f1dc88918b65b08d470f028b1e3ea2e111d994efb1c5d6836b", func := "pendentive/pendentivelaw07.ShakeAnswer", spec := "shakeAnswer", inPlace := ["internal/bytealg.IndexByteString", "internal/abi.NoEscape", "internal/bytealg.MakeNoZero", "internal/bytealg.IndexString"], unfollowed := true, recurses := true, named := ["pendentive/head.tokenSpans", "unicode/utf8.first", "unicode/utf8.acceptRanges", "internal/bytealg.MaxLen", "pendentive/sha.startParts", "pendentive/sha.roundNumbers", "pendentive/base.letters", "internal/strconv.uint64pow10", "math/bits.deBruijn32tab", "math/bits.deBruijn64tab"], apart := false, laid := [("math/bits.deBruijn32tab", laid_math_bits_deBruijn32tab), ("math/bits.deBruijn64tab", laid_math_bits_deBruijn64tab), ("internal/strconv.uint64pow10", laid_internal_strconv_uint64pow10), ("pendentive/sha.startParts", laid_pendentive_sha_startParts), ("pendentive/sha.roundNumbers", laid_pendentive_sha_roundNumbers), ("unicode/utf8.acceptRanges", laid_unicode_utf8_acceptRanges), ("pendentive/base.letters", laid_pendentive_base_letters), ("pendentive/head.tokenSpans", laid_pendentive_head_tokenSpans), ("unicode/utf8.first", laid_unicode_utf8_first)], narrowed := true }
def ShakeAnswerUptoSaid : Prop := shakeAnswerUptoRow.holds Tryz.pinned (OpenSpec.upto shakeAnswerSpec)

/-- 'pendentivelaw07.ShakeAsk', WHERE WHAT IT READS IS OF BULK AT MOST 1048576: true; the input reads as it did. -/
def shakeAskUptoRow : OpenClaim := { program := "ythlagngpllahkaagreatdoor", sum := "cf3392539a5e75f1dc88918b65b08d470f028b1e3ea2e111d994efb1c5d6836b", func := "pendentive/pendentivelaw07.ShakeAsk", spec := "shakeAsk", inPlace := ["internal/bytealg.IndexByteString", "internal/abi.NoEscape", "internal/bytealg.MakeNoZero", "internal/bytealg.IndexString"], unfollowed := true, recurses := true, named := ["pendentive/head.tokenSpans", "unicode/utf8.first", "unicode/utf8.acceptRanges", "internal/bytealg.MaxLen", "pendentive/sha.startParts", "pendentive/sha.roundNumbers", "pendentive/base.letters", "internal/strconv.uint64pow10", "math/bits.deBruijn32tab", "math/bits.deBruijn64tab"], apart := false, laid := [("math/bits.deBruijn32tab", laid_math_bits_deBruijn32tab), ("math/bits.deBruijn64tab", laid_math_bits_deBruijn64tab), ("internal/strconv.uint64pow10", laid_internal_strconv_uint64pow10), ("pendentive/sha.startParts", laid_pendentive_sha_startParts), ("pendentive/sha.roundNumbers", laid_pendentive_sha_roundNumbers), ("unicode/utf8.acceptRanges", laid_unicode_utf8_acceptRanges), ("pendentive/base.letters", laid_pendentive_base_letters), ("pendentive/head.tokenSpans", laid_pendentive_head_tokenSpans), ("unicode/utf8.first", laid_unicode_utf8_first)], narrowed := true }
def ShakeAskUptoSaid : Prop := shakeAskUptoRow.holds Tryz.pinned (OpenSpec.upto shakeAskSpec)

/-- 'pendentivelaw07.ShakeCheck', WHERE WHAT IT READS IS OF BULK AT MOST 1048576: true; the input reads as it did. -/
def shakeCheckUptoRow : OpenClaim := { program := "ythlagngpllahkaagreatdoor", sum := "cf3392539a5e75f1dc88918b65b08d470f028b1e3ea2e111d994efb1c5d6836b", func := "pendentive/pendentivelaw07.ShakeCheck", spec := "shakeCheck", inPlace := ["internal/bytealg.IndexByteString", "internal/abi.NoEscape", "internal/bytealg.MakeNoZero", "internal/bytealg.IndexString"], unfollowed := true, recurses := true, named := ["pendentive/head.tokenSpans", "unicode/utf8.first", "unicode/utf8.acceptRanges", "internal/bytealg.MaxLen", "pendentive/sha.startParts", "pendentive/sha.roundNumbers", "pendentive/base.letters", "internal/strconv.uint64pow10", "math/bits.deBruijn32tab", "math/bits.deBruijn64tab"], apart := false, laid := [("math/bits.deBruijn32tab", laid_math_bits_deBruijn32tab), ("math/bits.deBruijn64tab", laid_math_bits_deBruijn64tab), ("internal/strconv.uint64pow10", laid_internal_strconv_uint64pow10), ("pendentive/sha.startParts", laid_pendentive_sha_startParts), ("pendentive/sha.roundNumbers", laid_pendentive_sha_roundNumbers), ("unicode/utf8.acceptRanges", laid_unicode_utf8_acceptRanges), ("pendentive/base.letters", laid_pendentive_base_letters), ("pendentive/head.tokenSpans", laid_pendentive_head_tokenSpans), ("unicode/utf8.first", laid_unicode_utf8_first)], narrowed := true }
def ShakeCheckUptoSaid : Prop := shakeCheckUptoRow.holds Tryz.pinned (OpenSpec.upto shakeCheckSpec)

/-- 'pendentivelaw07.ShakeBoth', WHERE WHAT IT READS IS OF BULK AT MOST 1048576: true; the input reads as it did. -/
def shakeBothUptoRow : OpenClaim := { program := "ythlagngpllahkaagreatdoor", sum := "cf3392539a5e75f1dc88918b65b08d470f028b1e3ea2e111d994efb1c5d6836b", func := "pendentive/pendentivelaw07.ShakeBoth", spec := "shakeBoth", inPlace := ["internal/bytealg.IndexByteString", "internal/abi.NoEscape", "internal/bytealg.MakeNoZero", "internal/bytealg.IndexString", "internal/bytealg.IndexByte", "internal/bytealg.Index", "internal/bytealg.CountString"], unfollowed := true, recurses := true, named := ["pendentive/head.tokenSpans", "unicode/utf8.first", "unicode/utf8.acceptRanges", "internal/bytealg.MaxLen", "pendentive/sha.startParts", "pendentive/sha.roundNumbers", "pendentive/base.letters", "internal/strconv.uint64pow10", "math/bits.deBruijn32tab", "math/bits.deBruijn64tab"], apart := false, laid := [("math/bits.deBruijn32tab", laid_math_bits_deBruijn32tab), ("math/bits.deBruijn64tab", laid_math_bits_deBruijn64tab), ("internal/strconv.uint64pow10", laid_internal_strconv_uint64pow10), ("pendentive/sha.startParts", laid_pendentive_sha_startParts), ("pendentive/sha.roundNumbers", laid_pendentive_sha_roundNumbers), ("unicode/utf8.acceptRanges", laid_unicode_utf8_acceptRanges), ("pendentive/base.letters", laid_pendentive_base_letters), ("pendentive/head.tokenSpans", laid_pendentive_head_tokenSpans), ("unicode/utf8.first", laid_unicode_utf8_first)], narrowed := true }
def ShakeBothUptoSaid : Prop := shakeBothUptoRow.holds Tryz.pinned (OpenSpec.upto shakeBothSpec)

/-- 'pendentivelaw07.ShakeCase', WHERE WHAT IT READS IS OF BULK AT MOST 1048576: true; the input reads as it did. -/
def shakeCaseUptoRow : OpenClaim := { program := "ythlagngpllahkaagreatdoor", sum := "cf3392539a5e75f1dc88918b65b08d470f028b1e3ea2e111d994efb1c5d6836b", func := "pendentive/pendentivelaw07.ShakeCase", spec := "shakeCase", inPlace := ["internal/bytealg.IndexByteString", "internal/abi.NoEscape", "internal/bytealg.MakeNoZero", "internal/bytealg.IndexString"], unfollowed := true, recurses := true, named := ["pendentive/head.tokenSpans", "unicode/utf8.first", "unicode/utf8.acceptRanges", "internal/bytealg.MaxLen", "pendentive/sha.startParts", "pendentive/sha.roundNumbers", "pendentive/base.letters", "internal/strconv.uint64pow10", "math/bits.deBruijn32tab", "math/bits.deBruijn64tab"], apart := false, laid := [("math/bits.deBruijn32tab", laid_math_bits_deBruijn32tab), ("math/bits.deBruijn64tab", laid_math_bits_deBruijn64tab), ("internal/strconv.uint64pow10", laid_internal_strconv_uint64pow10), ("pendentive/sha.startParts", laid_pendentive_sha_startParts), ("pendentive/sha.roundNumbers", laid_pendentive_sha_roundNumbers), ("unicode/utf8.acceptRanges", laid_unicode_utf8_acceptRanges), ("pendentive/base.letters", laid_pendentive_base_letters), ("pendentive/head.tokenSpans", laid_pendentive_head_tokenSpans), ("unicode/utf8.first", laid_unicode_utf8_first)], narrowed := true }
def ShakeCaseUptoSaid : Prop := shakeCaseUptoRow.holds Tryz.pinned (OpenSpec.upto shakeCaseSpec)

/-- 'pendentivelaw07.ShakeMore', WHERE WHAT IT READS IS OF BULK AT MOST 1048576: true; the input reads as it did. -/
def shakeMoreUptoRow : OpenClaim := { program := "ythlagngpllahkaagreatdoor", sum := "cf3392539a5e75f1dc88918b65b08d470f028b1e3ea2e111d994efb1c5d6836b", func := "pendentive/pendentivelaw07.ShakeMore", spec := "shakeMore", inPlace := ["internal/bytealg.IndexByteString", "internal/abi.NoEscape", "internal/bytealg.MakeNoZero", "internal/bytealg.IndexString"], unfollowed := true, recurses := true, named := ["pendentive/head.tokenSpans", "unicode/utf8.first", "unicode/utf8.acceptRanges", "internal/bytealg.MaxLen", "pendentive/sha.startParts", "pendentive/sha.roundNumbers", "pendentive/base.letters", "internal/strconv.uint64pow10", "math/bits.deBruijn32tab", "math/bits.deBruijn64tab"], apart := false, laid := [("math/bits.deBruijn32tab", laid_math_bits_deBruijn32tab), ("math/bits.deBruijn64tab", laid_math_bits_deBruijn64tab), ("internal/strconv.uint64pow10", laid_internal_strconv_uint64pow10), ("pendentive/sha.startParts", laid_pendentive_sha_startParts), ("pendentive/sha.roundNumbers", laid_pendentive_sha_roundNumbers), ("unicode/utf8.acceptRanges", laid_unicode_utf8_acceptRanges), ("pendentive/base.letters", laid_pendentive_base_letters), ("pendentive/head.tokenSpans", laid_pendentive_head_tokenSpans), ("unicode/utf8.first", laid_unicode_utf8_first)], narrowed := true }
def ShakeMoreUptoSaid : Prop := shakeMoreUptoRow.holds Tryz.pinned (OpenSpec.upto shakeMoreSpec)

/-- 'pendentivelaw07.ShakeStatus', WHERE WHAT IT READS IS OF BULK AT MOST 1048576: true; the input reads as it did. -/
def shakeStatusUptoRow : OpenClaim := { program := "ythlagngpllahkaagreatdoor", sum := "cf3392539a5e75f1dc88918b65b08d470f028b1e3ea2e111d994efb1c5d6836b", func := "pendentive/pendentivelaw07.ShakeStatus", spec := "shakeStatus", inPlace := ["internal/bytealg.IndexByteString", "internal/bytealg.IndexString", "internal/abi.NoEscape", "internal/bytealg.MakeNoZero"], unfollowed := true, recurses := true, named := ["internal/strconv.uint64pow10", "math/bits.deBruijn32tab", "math/bits.deBruijn64tab", "pendentive/head.tokenSpans", "unicode/utf8.first", "unicode/utf8.acceptRanges", "internal/bytealg.MaxLen", "pendentive/sha.startParts", "pendentive/sha.roundNumbers", "pendentive/base.letters"], apart := false, laid := [("math/bits.deBruijn32tab", laid_math_bits_deBruijn32tab), ("math/bits.deBruijn64tab", laid_math_bits_deBruijn64tab), ("internal/strconv.uint64pow10", laid_internal_strconv_uint64pow10), ("pendentive/sha.startParts", laid_pendentive_sha_startParts), ("pendentive/sha.roundNumbers", laid_pendentive_sha_roundNumbers), ("unicode/utf8.acceptRanges", laid_unicode_utf8_acceptRanges), ("pendentive/base.letters", laid_pendentive_base_letters), ("pendentive/head.tokenSpans", laid_pendentive_head_tokenSpans), ("unicode/utf8.first", laid_unicode_utf8_first)], narrowed := true }
def ShakeStatusUptoSaid : Prop := shakeStatusUptoRow.holds Tryz.pinned (OpenSpec.upto shakeStatusSpec)

/-- 'pendentivelaw07.ShakeAllows', WHERE WHAT IT READS IS OF BULK AT MOST 1048576: true; the input reads as it did. -/
def shakeAllowsUptoRow : OpenClaim := { program := "ythlagngpllahkaagreatdoor", sum := "cf3392539a5e75f1dc88918b65b08d470f028b1e3ea2e111d994efb1c5d6836b", func := "pendentive/pendentivelaw07.ShakeAllows", spec := "shakeAllows", inPlace := ["internal/bytealg.IndexByteString", "internal/abi.NoEscape", "internal/bytealg.MakeNoZero", "internal/bytealg.IndexString"], unfollowed := true, recurses := true, named := ["pendentive/head.tokenSpans", "unicode/utf8.first", "unicode/utf8.acceptRanges", "internal/bytealg.MaxLen", "pendentive/sha.startParts", "pendentive/sha.roundNumbers", "pendentive/base.letters", "internal/strconv.uint64pow10", "math/bits.deBruijn32tab", "math/bits.deBruijn64tab"], apart := false, laid := [("math/bits.deBruijn32tab", laid_math_bits_deBruijn32tab), ("math/bits.deBruijn64tab", laid_math_bits_deBruijn64tab), ("internal/strconv.uint64pow10", laid_internal_strconv_uint64pow10), ("pendentive/sha.startParts", laid_pendentive_sha_startParts), ("pendentive/sha.roundNumbers", laid_pendentive_sha_roundNumbers), ("unicode/utf8.acceptRanges", laid_unicode_utf8_acceptRanges), ("pendentive/base.letters", laid_pendentive_base_letters), ("pendentive/head.tokenSpans", laid_pendentive_head_tokenSpans), ("unicode/utf8.first", laid_unicode_utf8_first)], narrowed := true }
def ShakeAllowsUptoSaid : Prop := shakeAllowsUptoRow.holds Tryz.pinned (OpenSpec.upto shakeAllowsSpec)

end Rows
end Go.Proofs.YthlagngpllahkaaGreatDoor
