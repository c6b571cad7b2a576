/-
  DERIVED. GIVEN WITH THE SEED: THE CARDS: each row of YtapjiopnjfldhaaDoorRows.lean that lists a variable, with what it lists TIED to the program's text (the seventh form; the later family's looks); each row that meets fmt, with fmt's text TOLD by the authors' own Lean function (tested against real Go, not proved from fmt's source: count such statements apart). THE CARD IS WHAT COUNTS. Prove the row's statement (the work); the ties are given (YtapjiopnjfldhaaDoorTie.lean); close each card by the builder's one call (the guide's Derived/Test/ToyasCard.lean, 'card_holds'). Laid BY PROGRAM, IN A SANDBOX (cutbox-door.mjs). By AI agents, Wed Nov 11 2026. No macro, syntax, notation, axiom, sorry.
-/
import Derived.Test.YtapjiopnjfldhaaDoorRows
import GoSem.ClaimSeven
namespace Go.Proofs.YtapjiopnjfldhaaDoor
namespace Rows

/-- THE TIED CARD OF 'omnibuslaw.RouteStep'. -/
def routeStepCard : Claim7 := { stood := { row := routeStepRow, standIns := [], harness := (true, "c8abd69220c76ae1801c30da4450726402e1b8f8d5d898dbd206cf2c191462e6"), looks := false }, kinds := [], alts := [], laidByText := true, laidKinds := [.data, .data], laidTests := true, laidLooks := .later }
def RouteStepCardSaid : Prop := Claim7.holds Tryd.pinned (.plain (OpenSpec.ofChange routeStepSpec)) routeStepCard

/-- THE TIED CARD OF 'omnibuslaw.RouteSpread'. -/
def routeSpreadCard : Claim7 := { stood := { row := routeSpreadRow, standIns := [], harness := (true, "c8abd69220c76ae1801c30da4450726402e1b8f8d5d898dbd206cf2c191462e6"), looks := false }, kinds := [], alts := [], laidByText := true, laidKinds := [.data, .data], laidTests := true, laidLooks := .later }
def RouteSpreadCardSaid : Prop := Claim7.holds Tryd.pinned (.plain (OpenSpec.ofChange routeSpreadSpec)) routeSpreadCard

/-- THE TIED CARD OF 'omnibuslaw.RouteGoes'. -/
def routeGoesCard : Claim7 := { stood := { row := routeGoesRow, standIns := [], harness := (true, "c8abd69220c76ae1801c30da4450726402e1b8f8d5d898dbd206cf2c191462e6"), looks := false }, kinds := [], alts := [], laidByText := true, laidKinds := [.data, .data], laidTests := true, laidLooks := .later }
def RouteGoesCardSaid : Prop := Claim7.holds Tryd.pinned (.plain (OpenSpec.ofChange routeGoesSpec)) routeGoesCard

/-- THE TIED CARD OF 'omnibuslaw.RouteMore'. -/
def routeMoreCard : Claim7 := { stood := { row := routeMoreRow, standIns := [], harness := (true, "c8abd69220c76ae1801c30da4450726402e1b8f8d5d898dbd206cf2c191462e6"), looks := false }, kinds := [], alts := [], laidByText := true, laidKinds := [.data, .data], laidTests := true, laidLooks := .later }
def RouteMoreCardSaid : Prop := Claim7.holds Tryd.pinned (.plain (OpenSpec.ofChange routeMoreSpec)) routeMoreCard

/-- THE SECOND FORM's CARD OF 'omnibuslaw.RouteStep'. -/
def routeStepUptoCard : Claim7 := { stood := { row := routeStepUptoRow, standIns := [], harness := (true, "c8abd69220c76ae1801c30da4450726402e1b8f8d5d898dbd206cf2c191462e6"), looks := false }, kinds := [], alts := [], laidByText := true, laidKinds := [.data, .data], laidTests := true, laidLooks := .later }
def RouteStepUptoCardSaid : Prop := Claim7.holds Tryd.pinned (.plain (OpenSpec.upto routeStepSpec)) routeStepUptoCard

/-- THE SECOND FORM's CARD OF 'omnibuslaw.RouteSpread'. -/
def routeSpreadUptoCard : Claim7 := { stood := { row := routeSpreadUptoRow, standIns := [], harness := (true, "c8abd69220c76ae1801c30da4450726402e1b8f8d5d898dbd206cf2c191462e6"), looks := false }, kinds := [], alts := [], laidByText := true, laidKinds := [.data, .data], laidTests := true, laidLooks := .later }
def RouteSpreadUptoCardSaid : Prop := Claim7.holds Tryd.pinned (.plain (OpenSpec.upto routeSpreadSpec)) routeSpreadUptoCard

/-- THE SECOND FORM's CARD OF 'omnibuslaw.RouteGoes'. -/
def routeGoesUptoCard : Claim7 := { stood := { row := routeGoesUptoRow, standIns := [], harness := (true, "c8abd69220c76ae1801c30da4450726402e1b8f8d5d898dbd206cf2c191462e6"), looks := false }, kinds := [], alts := [], laidByText := true, laidKinds := [.data, .data], laidTests := true, laidLooks := .later }
def RouteGoesUptoCardSaid : Prop := Claim7.holds Tryd.pinned (.plain (OpenSpec.upto routeGoesSpec)) routeGoesUptoCard

/-- THE SECOND FORM's CARD OF 'omnibuslaw.RouteMore'. -/
def routeMoreUptoCard : Claim7 := { stood := { row := routeMoreUptoRow, standIns := [], harness := (true, "c8abd69220c76ae1801c30da4450726402e1b8f8d5d898dbd206cf2c191462e6"), looks := false }, kinds := [], alts := [], laidByText := true, laidKinds := [.data, .data], laidTests := true, laidLooks := .later }
def RouteMoreUptoCardSaid : Prop := Claim7.holds Tryd.pinned (.plain (OpenSpec.upto routeMoreSpec)) routeMoreUptoCard
end Rows
end Go.Proofs.YtapjiopnjfldhaaDoor
