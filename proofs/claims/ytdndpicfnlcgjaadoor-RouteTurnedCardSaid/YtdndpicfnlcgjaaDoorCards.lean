/-
  DERIVED. GIVEN WITH THE SEED: THE CARDS: each row of YtdndpicfnlcgjaaDoorRows.lean that lists a variable, with what it lists TIED to the program's text (the seventh form; the later family's looks); each row that meets fmt, with fmt's text TOLD by the authors' own Lean function (tested against real Go, not proved from fmt's source: count such statements apart). THE CARD IS WHAT COUNTS. Prove the row's statement (the work); the ties are given (YtdndpicfnlcgjaaDoorTie.lean); close each card by the builder's one call (the guide's Derived/Test/ToyasCard.lean, 'card_holds'). Laid BY PROGRAM, IN A SANDBOX (cutbox-door.mjs). By AI agents, Wed Nov 11 2026. No macro, syntax, notation, axiom, sorry.
-/
import Derived.Test.YtdndpicfnlcgjaaDoorRows
import GoSem.ClaimSeven
namespace Go.Proofs.YtdndpicfnlcgjaaDoor
namespace Rows

/-- THE TIED CARD OF 'pendentivelaw15.RouteChecks'. -/
def routeChecksCard : Claim7 := { stood := { row := routeChecksRow, standIns := [], harness := (true, "a8d68cb8743ae20cb5339bd2a24a67999c2c06acc1d861e9c171f4fb827fdf01"), looks := false }, kinds := [], alts := [], laidByText := true, laidKinds := [.data], laidTests := true, laidLooks := .later }
def RouteChecksCardSaid : Prop := Claim7.holds Tryd.pinned (.plain (OpenSpec.ofChange routeChecksSpec)) routeChecksCard

/-- THE TIED CARD OF 'pendentivelaw15.RoutePicks'. -/
def routePicksCard : Claim7 := { stood := { row := routePicksRow, standIns := [], harness := (true, "a8d68cb8743ae20cb5339bd2a24a67999c2c06acc1d861e9c171f4fb827fdf01"), looks := false }, kinds := [], alts := [], laidByText := true, laidKinds := [.data], laidTests := true, laidLooks := .later }
def RoutePicksCardSaid : Prop := Claim7.holds Tryd.pinned (.plain (OpenSpec.ofChange routePicksSpec)) routePicksCard

/-- THE TIED CARD OF 'pendentivelaw15.RouteBelow'. -/
def routeBelowCard : Claim7 := { stood := { row := routeBelowRow, standIns := [], harness := (true, "a8d68cb8743ae20cb5339bd2a24a67999c2c06acc1d861e9c171f4fb827fdf01"), looks := false }, kinds := [], alts := [], laidByText := true, laidKinds := [.data], laidTests := true, laidLooks := .later }
def RouteBelowCardSaid : Prop := Claim7.holds Tryd.pinned (.plain (OpenSpec.ofChange routeBelowSpec)) routeBelowCard

/-- THE TIED CARD OF 'pendentivelaw15.RouteBest'. -/
def routeBestCard : Claim7 := { stood := { row := routeBestRow, standIns := [], harness := (true, "a8d68cb8743ae20cb5339bd2a24a67999c2c06acc1d861e9c171f4fb827fdf01"), looks := false }, kinds := [], alts := [], laidByText := true, laidKinds := [.data], laidTests := true, laidLooks := .later }
def RouteBestCardSaid : Prop := Claim7.holds Tryd.pinned (.plain (OpenSpec.ofChange routeBestSpec)) routeBestCard

/-- THE TIED CARD OF 'pendentivelaw15.RouteTurned'. -/
def routeTurnedCard : Claim7 := { stood := { row := routeTurnedRow, standIns := [], harness := (true, "a8d68cb8743ae20cb5339bd2a24a67999c2c06acc1d861e9c171f4fb827fdf01"), looks := false }, kinds := [], alts := [], laidByText := true, laidKinds := [.data], laidTests := true, laidLooks := .later }
def RouteTurnedCardSaid : Prop := Claim7.holds Tryd.pinned (.plain (OpenSpec.ofChange routeTurnedSpec)) routeTurnedCard

/-- THE TIED CARD OF 'pendentivelaw15.RouteFull'. -/
def routeFullCard : Claim7 := { stood := { row := routeFullRow, standIns := [], harness := (true, "a8d68cb8743ae20cb5339bd2a24a67999c2c06acc1d861e9c171f4fb827fdf01"), looks := false }, kinds := [], alts := [], laidByText := true, laidKinds := [.data], laidTests := true, laidLooks := .later }
def RouteFullCardSaid : Prop := Claim7.holds Tryd.pinned (.plain (OpenSpec.ofChange routeFullSpec)) routeFullCard

/-- THE TIED CARD OF 'pendentivelaw15.RouteRoot'. -/
def routeRootCard : Claim7 := { stood := { row := routeRootRow, standIns := [], harness := (true, "a8d68cb8743ae20cb5339bd2a24a67999c2c06acc1d861e9c171f4fb827fdf01"), looks := false }, kinds := [], alts := [], laidByText := true, laidKinds := [.data], laidTests := true, laidLooks := .later }
def RouteRootCardSaid : Prop := Claim7.holds Tryd.pinned (.plain (OpenSpec.ofChange routeRootSpec)) routeRootCard

/-- THE SECOND FORM's CARD OF 'pendentivelaw15.RouteChecks'. -/
def routeChecksUptoCard : Claim7 := { stood := { row := routeChecksUptoRow, standIns := [], harness := (true, "a8d68cb8743ae20cb5339bd2a24a67999c2c06acc1d861e9c171f4fb827fdf01"), looks := false }, kinds := [], alts := [], laidByText := true, laidKinds := [.data], laidTests := true, laidLooks := .later }
def RouteChecksUptoCardSaid : Prop := Claim7.holds Tryd.pinned (.plain (OpenSpec.upto routeChecksSpec)) routeChecksUptoCard

/-- THE SECOND FORM's CARD OF 'pendentivelaw15.RoutePicks'. -/
def routePicksUptoCard : Claim7 := { stood := { row := routePicksUptoRow, standIns := [], harness := (true, "a8d68cb8743ae20cb5339bd2a24a67999c2c06acc1d861e9c171f4fb827fdf01"), looks := false }, kinds := [], alts := [], laidByText := true, laidKinds := [.data], laidTests := true, laidLooks := .later }
def RoutePicksUptoCardSaid : Prop := Claim7.holds Tryd.pinned (.plain (OpenSpec.upto routePicksSpec)) routePicksUptoCard

/-- THE SECOND FORM's CARD OF 'pendentivelaw15.RouteBelow'. -/
def routeBelowUptoCard : Claim7 := { stood := { row := routeBelowUptoRow, standIns := [], harness := (true, "a8d68cb8743ae20cb5339bd2a24a67999c2c06acc1d861e9c171f4fb827fdf01"), looks := false }, kinds := [], alts := [], laidByText := true, laidKinds := [.data], laidTests := true, laidLooks := .later }
def RouteBelowUptoCardSaid : Prop := Claim7.holds Tryd.pinned (.plain (OpenSpec.upto routeBelowSpec)) routeBelowUptoCard

/-- THE SECOND FORM's CARD OF 'pendentivelaw15.RouteBest'. -/
def routeBestUptoCard : Claim7 := { stood := { row := routeBestUptoRow, standIns := [], harness := (true, "a8d68cb8743ae20cb5339bd2a24a67999c2c06acc1d861e9c171f4fb827fdf01"), looks := false }, kinds := [], alts := [], laidByText := true, laidKinds := [.data], laidTests := true, laidLooks := .later }
def RouteBestUptoCardSaid : Prop := Claim7.holds Tryd.pinned (.plain (OpenSpec.upto routeBestSpec)) routeBestUptoCard

/-- THE SECOND FORM's CARD OF 'pendentivelaw15.RouteTurned'. -/
def routeTurnedUptoCard : Claim7 := { stood := { row := routeTurnedUptoRow, standIns := [], harness := (true, "a8d68cb8743ae20cb5339bd2a24a67999c2c06acc1d861e9c171f4fb827fdf01"), looks := false }, kinds := [], alts := [], laidByText := true, laidKinds := [.data], laidTests := true, laidLooks := .later }
def RouteTurnedUptoCardSaid : Prop := Claim7.holds Tryd.pinned (.plain (OpenSpec.upto routeTurnedSpec)) routeTurnedUptoCard

/-- THE SECOND FORM's CARD OF 'pendentivelaw15.RouteFull'. -/
def routeFullUptoCard : Claim7 := { stood := { row := routeFullUptoRow, standIns := [], harness := (true, "a8d68cb8743ae20cb5339bd2a24a67999c2c06acc1d861e9c171f4fb827fdf01"), looks := false }, kinds := [], alts := [], laidByText := true, laidKinds := [.data], laidTests := true, laidLooks := .later }
def RouteFullUptoCardSaid : Prop := Claim7.holds Tryd.pinned (.plain (OpenSpec.upto routeFullSpec)) routeFullUptoCard

/-- THE SECOND FORM's CARD OF 'pendentivelaw15.RouteRoot'. -/
def routeRootUptoCard : Claim7 := { stood := { row := routeRootUptoRow, standIns := [], harness := (true, "a8d68cb8743ae20cb5339bd2a24a67999c2c06acc1d861e9c171f4fb827fdf01"), looks := false }, kinds := [], alts := [], laidByText := true, laidKinds := [.data], laidTests := true, laidLooks := .later }
def RouteRootUptoCardSaid : Prop := Claim7.holds Tryd.pinned (.plain (OpenSpec.upto routeRootSpec)) routeRootUptoCard
end Rows
end Go.Proofs.YtdndpicfnlcgjaaDoor
