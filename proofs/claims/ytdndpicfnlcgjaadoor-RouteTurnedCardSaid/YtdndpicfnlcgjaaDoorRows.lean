/-
  NARROWER THAN 'FOR EVERY INPUT', by the rows' own cells (each row's printed sentence says how): RouteChecks: laid · RoutePicks: laid · RouteBelow: laid · RouteBest: laid · RouteTurned: laid · RouteFull: laid · RouteRoot: laid.
  DERIVED. THE GIVEN ROWS OF THIS SEAT. 7 by the template 'for every input the law returns true; each argument reads behind the call as it read before'; 0 by the template 'total and deterministic' (their statements: YtdndpicfnlcgjaaDoorTotals.lean).
  GIVEN WITH THE SEED: the statements are not yours to turn. If you find one false, say at which input.
  Laid BY PROGRAM, IN A SANDBOX (cutbox-rows.mjs): the forced cells as the released guide's own fill.sh prints them over the translation a86309c480323a58… (all of the seat's roots in one cut). By AI agents, Wed Nov 11 2026. No macro, syntax, notation, axiom, sorry.
-/
import Derived.Test.YtdndpicfnlcgjaaDoorChecked
import GoSem.Claim
import GoSem.ClaimJoined
import GoSem.ClaimMapViews
import Derived.JoinedTies
import Derived.KernelRfl
namespace Go.Proofs.YtdndpicfnlcgjaaDoor
/- THE CELL 'sum', in the pinned program and in every row, IS THE sha256 OF THE DUMP (.gsa) THAT YtdndpicfnlcgjaaDoorProg.lean LOADS. Nothing in Lean hashes anything: it is a label: what it is worth is what the hold of that sum in a sandbox is worth. -/
noncomputable def Tryd.pinned : Pinned := { name := "ytdndpicfnlcgjaadoor", sum := "a86309c480323a58757d81f976c1809a2641ae801a928acd1d3d4658e17af5f9", checked := Tryd.checked }
namespace Rows
def none {H : Type} : Left H := { results := [], args := [] }

/- WHAT THE LISTED PACKAGE-LEVEL VARIABLES READ AS WHEN THE CALL BEGINS. Each datum BY PROGRAM (the guide's laid-datum.mjs) off the statement by which the dump's own 'gosem.cut.vars' lays the variable. In a bare row this is a premise. The card (YtdndpicfnlcgjaaDoorCards.lean) ties it to the program's text. -/
def laid_pendentive_head_tokenSpans {H : Type} : DataW H := .agg [.agg [.lit (.int .u8 97), .lit (.int .u8 122)], .agg [.lit (.int .u8 65), .lit (.int .u8 90)], .agg [.lit (.int .u8 48), .lit (.int .u8 57)]]

/-- 'pendentivelaw15.RouteChecks': WHATEVER THE INPUT: true; the input reads as it did. -/
def routeChecksSpec : ChangeSpec := { name := "routeChecks", fn := fun _ => fun
  | [d] => { results := [.lit (.bool true)], args := [d] }
  | _ => none }
def routeChecksRow : OpenClaim := { program := "ytdndpicfnlcgjaadoor", sum := "a86309c480323a58757d81f976c1809a2641ae801a928acd1d3d4658e17af5f9", func := "pendentive/pendentivelaw15.RouteChecks", spec := "routeChecks", inPlace := ["internal/bytealg.IndexByteString", "internal/bytealg.IndexString"], unfollowed := true, recurses := true, named := ["internal/bytealg.MaxLen", "pendentive/head.tokenSpans"], apart := false, laid := [("pendentive/head.tokenSpans", laid_pendentive_head_tokenSpans)] }
def RouteChecksSaid : Prop := routeChecksRow.holds Tryd.pinned (OpenSpec.ofChange routeChecksSpec)

/-- ITS FALSE NEIGHBOUR: 'it returns false'. Refute it at one input. -/
def routeChecksWrong : ChangeSpec := { name := "routeChecks", fn := fun _ => fun
  | [d] => { results := [.lit (.bool false)], args := [d] }
  | _ => none }
def RouteChecksWrongFalsely : Prop := routeChecksRow.holds Tryd.pinned (OpenSpec.ofChange routeChecksWrong)

/-- 'pendentivelaw15.RoutePicks': WHATEVER THE INPUT: true; the input reads as it did. -/
def routePicksSpec : ChangeSpec := { name := "routePicks", fn := fun _ => fun
  | [d1, d2, d3] => { results := [.lit (.bool true)], args := [d1, d2, d3] }
  | _ => none }
def routePicksRow : OpenClaim := { program := "ytdndpicfnlcgjaadoor", sum := "a86309c480323a58757d81f976c1809a2641ae801a928acd1d3d4658e17af5f9", func := "pendentive/pendentivelaw15.RoutePicks", spec := "routePicks", inPlace := ["internal/bytealg.IndexByteString", "internal/bytealg.IndexString"], unfollowed := true, recurses := true, named := ["internal/bytealg.MaxLen", "pendentive/head.tokenSpans"], apart := false, laid := [("pendentive/head.tokenSpans", laid_pendentive_head_tokenSpans)] }
def RoutePicksSaid : Prop := routePicksRow.holds Tryd.pinned (OpenSpec.ofChange routePicksSpec)

/-- ITS FALSE NEIGHBOUR: 'it returns false'. Refute it at one input. -/
def routePicksWrong : ChangeSpec := { name := "routePicks", fn := fun _ => fun
  | [d1, d2, d3] => { results := [.lit (.bool false)], args := [d1, d2, d3] }
  | _ => none }
def RoutePicksWrongFalsely : Prop := routePicksRow.holds Tryd.pinned (OpenSpec.ofChange routePicksWrong)

/-- 'pendentivelaw15.RouteBelow': WHATEVER THE INPUT: true; the input reads as it did. -/
def routeBelowSpec : ChangeSpec := { name := "routeBelow", fn := fun _ => fun
  | [d1, d2, d3] => { results := [.lit (.bool true)], args := [d1, d2, d3] }
  | _ => none }
def routeBelowRow : OpenClaim := { program := "ytdndpicfnlcgjaadoor", sum := "a86309c480323a58757d81f976c1809a2641ae801a928acd1d3d4658e17af5f9", func := "pendentive/pendentivelaw15.RouteBelow", spec := "routeBelow", inPlace := ["internal/bytealg.IndexByteString", "internal/bytealg.IndexString"], unfollowed := true, recurses := true, named := ["internal/bytealg.MaxLen", "pendentive/head.tokenSpans"], apart := false, laid := [("pendentive/head.tokenSpans", laid_pendentive_head_tokenSpans)] }
def RouteBelowSaid : Prop := routeBelowRow.holds Tryd.pinned (OpenSpec.ofChange routeBelowSpec)

/-- ITS FALSE NEIGHBOUR: 'it returns false'. Refute it at one input. -/
def routeBelowWrong : ChangeSpec := { name := "routeBelow", fn := fun _ => fun
  | [d1, d2, d3] => { results := [.lit (.bool false)], args := [d1, d2, d3] }
  | _ => none }
def RouteBelowWrongFalsely : Prop := routeBelowRow.holds Tryd.pinned (OpenSpec.ofChange routeBelowWrong)

/-- 'pendentivelaw15.RouteBest': WHATEVER THE INPUT: true; the input reads as it did. -/
def routeBestSpec : ChangeSpec := { name := "routeBest", fn := fun _ => fun
  | [d1, d2, d3] => { results := [.lit (.bool true)], args := [d1, d2, d3] }
  | _ => none }
def routeBestRow : OpenClaim := { program := "ytdndpicfnlcgjaadoor", sum := "a86309c480323a58757d81f976c1809a2641ae801a928acd1d3d4658e17af5f9", func := "pendentive/pendentivelaw15.RouteBest", spec := "routeBest", inPlace := ["internal/bytealg.IndexByteString", "internal/bytealg.IndexString"], unfollowed := true, recurses := true, named := ["internal/bytealg.MaxLen", "pendentive/head.tokenSpans"], apart := false, laid := [("pendentive/head.tokenSpans", laid_pendentive_head_tokenSpans)] }
def RouteBestSaid : Prop := routeBestRow.holds Tryd.pinned (OpenSpec.ofChange routeBestSpec)

/-- ITS FALSE NEIGHBOUR: 'it returns false'. Refute it at one input. -/
def routeBestWrong : ChangeSpec := { name := "routeBest", fn := fun _ => fun
  | [d1, d2, d3] => { results := [.lit (.bool false)], args := [d1, d2, d3] }
  | _ => none }
def RouteBestWrongFalsely : Prop := routeBestRow.holds Tryd.pinned (OpenSpec.ofChange routeBestWrong)

/-- 'pendentivelaw15.RouteTurned': WHATEVER THE INPUT: true; the input reads as it did. -/
def routeTurnedSpec : ChangeSpec := { name := "routeTurned", fn := fun _ => fun
  | [d1, d2, d3, d4] => { results := [.lit (.bool true)], args := [d1, d2, d3, d4] }
  | _ => none }
def routeTurnedRow : OpenClaim := { program := "ytdndpicfnlcgjaadoor", sum := "a86309c480323a58757d81f976c1809a2641ae801a928acd1d3d4658e17af5f9", func := "pendentive/pendentivelaw15.RouteTurned", spec := "routeTurned", inPlace := ["internal/bytealg.IndexByteString", "internal/bytealg.IndexString"], unfollowed := true, recurses := true, named := ["internal/bytealg.MaxLen", "pendentive/head.tokenSpans"], apart := false, laid := [("pendentive/head.tokenSpans", laid_pendentive_head_tokenSpans)] }
def RouteTurnedSaid : Prop := routeTurnedRow.holds Tryd.pinned (OpenSpec.ofChange routeTurnedSpec)

/-- ITS FALSE NEIGHBOUR: 'it returns false'. Refute it at one input. -/
def routeTurnedWrong : ChangeSpec := { name := "routeTurned", fn := fun _ => fun
  | [d1, d2, d3, d4] => { results := [.lit (.bool false)], args := [d1, d2, d3, d4] }
  | _ => none }
def RouteTurnedWrongFalsely : Prop := routeTurnedRow.holds Tryd.pinned (OpenSpec.ofChange routeTurnedWrong)

/-- 'pendentivelaw15.RouteFull': WHATEVER THE INPUT: true; the input reads as it did. -/
def routeFullSpec : ChangeSpec := { name := "routeFull", fn := fun _ => fun
  | [d1, d2, d3, d4] => { results := [.lit (.bool true)], args := [d1, d2, d3, d4] }
  | _ => none }
def routeFullRow : OpenClaim := { program := "ytdndpicfnlcgjaadoor", sum := "a86309c480323a58757d81f976c1809a2641ae801a928acd1d3d4658e17af5f9", func := "pendentive/pendentivelaw15.RouteFull", spec := "routeFull", inPlace := ["internal/bytealg.IndexByteString", "internal/bytealg.IndexString"], unfollowed := true, recurses := true, named := ["internal/bytealg.MaxLen", "pendentive/head.tokenSpans"], apart := false, laid := [("pendentive/head.tokenSpans", laid_pendentive_head_tokenSpans)] }
def RouteFullSaid : Prop := routeFullRow.holds Tryd.pinned (OpenSpec.ofChange routeFullSpec)

/-- ITS FALSE NEIGHBOUR: 'it returns false'. Refute it at one input. -/
def routeFullWrong : ChangeSpec := { name := "routeFull", fn := fun _ => fun
  | [d1, d2, d3, d4] => { results := [.lit (.bool false)], args := [d1, d2, d3, d4] }
  | _ => none }
def RouteFullWrongFalsely : Prop := routeFullRow.holds Tryd.pinned (OpenSpec.ofChange routeFullWrong)

/-- 'pendentivelaw15.RouteRoot': WHATEVER THE INPUT: true; the input reads as it did. -/
def routeRootSpec : ChangeSpec := { name := "routeRoot", fn := fun _ => fun
  | [d1, d2] => { results := [.lit (.bool true)], args := [d1, d2] }
  | _ => none }
def routeRootRow : OpenClaim := { program := "ytdndpicfnlcgjaadoor", sum := "a86309c480323a58757d81f976c1809a2641ae801a928acd1d3d4658e17af5f9", func := "pendentive/pendentivelaw15.RouteRoot", spec := "routeRoot", inPlace := ["internal/bytealg.IndexByteString", "internal/bytealg.IndexString"], unfollowed := true, recurses := true, named := ["internal/bytealg.MaxLen", "pendentive/head.tokenSpans"], apart := false, laid := [("pendentive/head.tokenSpans", laid_pendentive_head_tokenSpans)] }
def RouteRootSaid : Prop := routeRootRow.holds Tryd.pinned (OpenSpec.ofChange routeRootSpec)

/-- ITS FALSE NEIGHBOUR: 'it returns false'. Refute it at one input. -/
def routeRootWrong : ChangeSpec := { name := "routeRoot", fn := fun _ => fun
  | [d1, d2] => { results := [.lit (.bool false)], args := [d1, d2] }
  | _ => none }
def RouteRootWrongFalsely : Prop := routeRootRow.holds Tryd.pinned (OpenSpec.ofChange routeRootWrong)

/- THE SECOND FORM. 'bulk': how many values and letters a reading holds, each counted each time it is reached (what is shared counts as often as it is met; a slice's spare places count too). A statement '..UptoSaid' is the law's where the arguments, and the package variables that the reading takes, are together of bulk at most 1048576: NARROWER than '..Said'. Prove '..Said' where nothing that the law and all that it calls make is longer than what came in: it says more and counts as full. Else prove '..UptoSaid'. A law counts once. -/
mutual
def uptoBulk {H : Type} : DataW H → Nat
  | .lit (.string bytes) => bytes.length + 1
  | .lit _ => 1
  | .nil => 1
  | .ptr d => uptoBulk d + 1
  | .slice elems spare => uptoBulkAll elems + uptoBulkAll spare + 1
  | .agg parts => uptoBulkAll parts + 1
  | .iface _ d => uptoBulk d + 1
  | .map entries => uptoBulkEntries entries + 1
  | .held _ => 1
def uptoBulkAll {H : Type} : List (DataW H) → Nat
  | [] => 0
  | d :: r => uptoBulk d + uptoBulkAll r
def uptoBulkEntries {H : Type} : List (Lit × DataW H) → Nat
  | [] => 0
  | x :: r => uptoBulkEntry x + uptoBulkEntries r
def uptoBulkEntry {H : Type} : Lit × DataW H → Nat
  | (.string bytes, d) => bytes.length + uptoBulk d + 1
  | (_, d) => uptoBulk d + 1
 end
def uptoSmall : (H : Type) → List (DataW H) → Bool := fun _ ds => decide (uptoBulkAll ds ≤ 1048576)
def OpenSpec.upto (s : _root_.Go.ChangeSpec) : _root_.Go.OpenSpec := { _root_.Go.OpenSpec.ofChange s with cond := some uptoSmall }

/-- 'pendentivelaw15.RouteChecks', WHERE WHAT IT READS IS OF BULK AT MOST 1048576: true; the input reads as it did. -/
def routeChecksUptoRow : OpenClaim := { program := "ytdndpicfnlcgjaadoor", sum := "a86309c480323a58757d81f976c1809a2641ae801a928acd1d3d4658e17af5f9", func := "pendentive/pendentivelaw15.RouteChecks", spec := "routeChecks", inPlace := ["internal/bytealg.IndexByteString", "internal/bytealg.IndexString"], unfollowed := true, recurses := true, named := ["internal/bytealg.MaxLen", "pendentive/head.tokenSpans"], apart := false, laid := [("pendentive/head.tokenSpans", laid_pendentive_head_tokenSpans)], narrowed := true }
def RouteChecksUptoSaid : Prop := routeChecksUptoRow.holds Tryd.pinned (OpenSpec.upto routeChecksSpec)

/-- 'pendentivelaw15.RoutePicks', WHERE WHAT IT READS IS OF BULK AT MOST 1048576: true; the input reads as it did. -/
def routePicksUptoRow : OpenClaim := { program := "ytdndpicfnlcgjaadoor", sum := "a86309c480323a58757d81f976c1809a2641ae801a928acd1d3d4658e17af5f9", func := "pendentive/pendentivelaw15.RoutePicks", spec := "routePicks", inPlace := ["internal/bytealg.IndexByteString", "internal/bytealg.IndexString"], unfollowed := true, recurses := true, named := ["internal/bytealg.MaxLen", "pendentive/head.tokenSpans"], apart := false, laid := [("pendentive/head.tokenSpans", laid_pendentive_head_tokenSpans)], narrowed := true }
def RoutePicksUptoSaid : Prop := routePicksUptoRow.holds Tryd.pinned (OpenSpec.upto routePicksSpec)

/-- 'pendentivelaw15.RouteBelow', WHERE WHAT IT READS IS OF BULK AT MOST 1048576: true; the input reads as it did. -/
def routeBelowUptoRow : OpenClaim := { program := "ytdndpicfnlcgjaadoor", sum := "a86309c480323a58757d81f976c1809a2641ae801a928acd1d3d4658e17af5f9", func := "pendentive/pendentivelaw15.RouteBelow", spec := "routeBelow", inPlace := ["internal/bytealg.IndexByteString", "internal/bytealg.IndexString"], unfollowed := true, recurses := true, named := ["internal/bytealg.MaxLen", "pendentive/head.tokenSpans"], apart := false, laid := [("pendentive/head.tokenSpans", laid_pendentive_head_tokenSpans)], narrowed := true }
def RouteBelowUptoSaid : Prop := routeBelowUptoRow.holds Tryd.pinned (OpenSpec.upto routeBelowSpec)

/-- 'pendentivelaw15.RouteBest', WHERE WHAT IT READS IS OF BULK AT MOST 1048576: true; the input reads as it did. -/
def routeBestUptoRow : OpenClaim := { program := "ytdndpicfnlcgjaadoor", sum := "a86309c480323a58757d81f976c1809a2641ae801a928acd1d3d4658e17af5f9", func := "pendentive/pendentivelaw15.RouteBest", spec := "routeBest", inPlace := ["internal/bytealg.IndexByteString", "internal/bytealg.IndexString"], unfollowed := true, recurses := true, named := ["internal/bytealg.MaxLen", "pendentive/head.tokenSpans"], apart := false, laid := [("pendentive/head.tokenSpans", laid_pendentive_head_tokenSpans)], narrowed := true }
def RouteBestUptoSaid : Prop := routeBestUptoRow.holds Tryd.pinned (OpenSpec.upto routeBestSpec)

/-- 'pendentivelaw15.RouteTurned', WHERE WHAT IT READS IS OF BULK AT MOST 1048576: true; the input reads as it did. -/
def routeTurnedUptoRow : OpenClaim := { program := "ytdndpicfnlcgjaadoor", sum := "a86309c480323a58757d81f976c1809a2641ae801a928acd1d3d4658e17af5f9", func := "pendentive/pendentivelaw15.RouteTurned", spec := "routeTurned", inPlace := ["internal/bytealg.IndexByteString", "internal/bytealg.IndexString"], unfollowed := true, recurses := true, named := ["internal/bytealg.MaxLen", "pendentive/head.tokenSpans"], apart := false, laid := [("pendentive/head.tokenSpans", laid_pendentive_head_tokenSpans)], narrowed := true }
def RouteTurnedUptoSaid : Prop := routeTurnedUptoRow.holds Tryd.pinned (OpenSpec.upto routeTurnedSpec)

/-- 'pendentivelaw15.RouteFull', WHERE WHAT IT READS IS OF BULK AT MOST 1048576: true; the input reads as it did. -/
def routeFullUptoRow : OpenClaim := { program := "ytdndpicfnlcgjaadoor", sum := "a86309c480323a58757d81f976c1809a2641ae801a928acd1d3d4658e17af5f9", func := "pendentive/pendentivelaw15.RouteFull", spec := "routeFull", inPlace := ["internal/bytealg.IndexByteString", "internal/bytealg.IndexString"], unfollowed := true, recurses := true, named := ["internal/bytealg.MaxLen", "pendentive/head.tokenSpans"], apart := false, laid := [("pendentive/head.tokenSpans", laid_pendentive_head_tokenSpans)], narrowed := true }
def RouteFullUptoSaid : Prop := routeFullUptoRow.holds Tryd.pinned (OpenSpec.upto routeFullSpec)

/-- 'pendentivelaw15.RouteRoot', WHERE WHAT IT READS IS OF BULK AT MOST 1048576: true; the input reads as it did. -/
def routeRootUptoRow : OpenClaim := { program := "ytdndpicfnlcgjaadoor", sum := "a86309c480323a58757d81f976c1809a2641ae801a928acd1d3d4658e17af5f9", func := "pendentive/pendentivelaw15.RouteRoot", spec := "routeRoot", inPlace := ["internal/bytealg.IndexByteString", "internal/bytealg.IndexString"], unfollowed := true, recurses := true, named := ["internal/bytealg.MaxLen", "pendentive/head.tokenSpans"], apart := false, laid := [("pendentive/head.tokenSpans", laid_pendentive_head_tokenSpans)], narrowed := true }
def RouteRootUptoSaid : Prop := routeRootUptoRow.holds Tryd.pinned (OpenSpec.upto routeRootSpec)

end Rows
end Go.Proofs.YtdndpicfnlcgjaaDoor
