/-
  DERIVED. GIVEN WITH THE SEED: THE CARDS: each row of YtfomempleaceiaaDoorRows.lean that lists a variable, with what it lists TIED to the program's text (the seventh form; the later family's looks); each row that meets fmt, with fmt's text TOLD by the authors' own Lean function (tested against real Go, not proved from fmt's source: count such statements apart). THE CARD IS WHAT COUNTS. Prove the row's statement (the work); the ties are given (YtfomempleaceiaaDoorTie.lean); close each card by the builder's one call (the guide's Derived/Test/ToyasCard.lean, 'card_holds'). Laid BY PROGRAM, IN A SANDBOX (cutbox-door.mjs). By AI agents, Wed Nov 11 2026. No macro, syntax, notation, axiom, sorry.
-/
import Derived.Test.YtfomempleaceiaaDoorRows
import GoSem.ClaimSeven
namespace Go.Proofs.YtfomempleaceiaaDoor
namespace Rows

/-- THE TIED CARD OF 'omnibuslaw.WireFirst'. -/
def wireFirstCard : Claim7 := { stood := { row := wireFirstRow, standIns := [], harness := (true, "dfc1bf6df83b8d3a103ceccb856db6f4f11f349c2b7d8aa3b30cff6d04310c3b"), looks := false }, kinds := [], alts := [], laidByText := true, laidKinds := [.data, .data, .data, .data, .data], laidTests := true, laidLooks := .later }
def WireFirstCardSaid : Prop := Claim7.holds Tryd.pinned (.plain (OpenSpec.ofChange wireFirstSpec)) wireFirstCard

/-- THE TIED CARD OF 'omnibuslaw.WireWins'. -/
def wireWinsCard : Claim7 := { stood := { row := wireWinsRow, standIns := [], harness := (true, "dfc1bf6df83b8d3a103ceccb856db6f4f11f349c2b7d8aa3b30cff6d04310c3b"), looks := false }, kinds := [], alts := [], laidByText := true, laidKinds := [.data, .data], laidTests := true, laidLooks := .later }
def WireWinsCardSaid : Prop := Claim7.holds Tryd.pinned (.plain (OpenSpec.ofChange wireWinsSpec)) wireWinsCard

/-- THE TIED CARD OF 'omnibuslaw.WireTurns'. -/
def wireTurnsCard : Claim7 := { stood := { row := wireTurnsRow, standIns := [], harness := (true, "dfc1bf6df83b8d3a103ceccb856db6f4f11f349c2b7d8aa3b30cff6d04310c3b"), looks := false }, kinds := [], alts := [], laidByText := true, laidKinds := [.data, .data], laidTests := true, laidLooks := .later }
def WireTurnsCardSaid : Prop := Claim7.holds Tryd.pinned (.plain (OpenSpec.ofChange wireTurnsSpec)) wireTurnsCard

/-- THE SECOND FORM's CARD OF 'omnibuslaw.WireFirst'. -/
def wireFirstUptoCard : Claim7 := { stood := { row := wireFirstUptoRow, standIns := [], harness := (true, "dfc1bf6df83b8d3a103ceccb856db6f4f11f349c2b7d8aa3b30cff6d04310c3b"), looks := false }, kinds := [], alts := [], laidByText := true, laidKinds := [.data, .data, .data, .data, .data], laidTests := true, laidLooks := .later }
def WireFirstUptoCardSaid : Prop := Claim7.holds Tryd.pinned (.plain (OpenSpec.upto wireFirstSpec)) wireFirstUptoCard

/-- THE SECOND FORM's CARD OF 'omnibuslaw.WireWins'. -/
def wireWinsUptoCard : Claim7 := { stood := { row := wireWinsUptoRow, standIns := [], harness := (true, "dfc1bf6df83b8d3a103ceccb856db6f4f11f349c2b7d8aa3b30cff6d04310c3b"), looks := false }, kinds := [], alts := [], laidByText := true, laidKinds := [.data, .data], laidTests := true, laidLooks := .later }
def WireWinsUptoCardSaid : Prop := Claim7.holds Tryd.pinned (.plain (OpenSpec.upto wireWinsSpec)) wireWinsUptoCard

/-- THE SECOND FORM's CARD OF 'omnibuslaw.WireTurns'. -/
def wireTurnsUptoCard : Claim7 := { stood := { row := wireTurnsUptoRow, standIns := [], harness := (true, "dfc1bf6df83b8d3a103ceccb856db6f4f11f349c2b7d8aa3b30cff6d04310c3b"), looks := false }, kinds := [], alts := [], laidByText := true, laidKinds := [.data, .data], laidTests := true, laidLooks := .later }
def WireTurnsUptoCardSaid : Prop := Claim7.holds Tryd.pinned (.plain (OpenSpec.upto wireTurnsSpec)) wireTurnsUptoCard
end Rows
end Go.Proofs.YtfomempleaceiaaDoor
