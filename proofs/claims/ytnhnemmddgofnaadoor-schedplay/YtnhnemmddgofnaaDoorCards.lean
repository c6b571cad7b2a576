/-
  DERIVED. GIVEN WITH THE SEED: THE CARDS: each row of YtnhnemmddgofnaaDoorRows.lean that lists a variable, with what it lists TIED to the program's text (the seventh form; the later family's looks); each row that meets fmt, with fmt's text TOLD by the authors' own Lean function (tested against real Go, not proved from fmt's source: count such statements apart). THE CARD IS WHAT COUNTS. Prove the row's statement (the work); the ties are given (YtnhnemmddgofnaaDoorTie.lean); close each card by the builder's one call (the guide's Derived/Test/ToyasCard.lean, 'card_holds'). Laid BY PROGRAM, IN A SANDBOX (cutbox-door.mjs). By AI agents, Wed Nov 11 2026. No macro, syntax, notation, axiom, sorry.
-/
import Derived.Test.YtnhnemmddgofnaaDoorRows
import GoSem.ClaimSeven
namespace Go.Proofs.YtnhnemmddgofnaaDoor
namespace Rows

/-- THE TIED CARD OF 'omnibuslaw.SchedPlay'. -/
def schedPlayCard : Claim7 := { stood := { row := schedPlayRow, standIns := [], harness := (true, "7a122d3eb6195b00d015e7adde692f62a78ab9c834c994194735a9b8b483f0ef"), looks := false }, kinds := [], alts := [], laidByText := true, laidKinds := [.data, .data, .data, .data, .data], laidTests := true, laidLooks := .later }
def SchedPlayCardSaid : Prop := Claim7.holds Tryd.pinned (.plain (OpenSpec.ofChange schedPlaySpec)) schedPlayCard

/-- THE TIED CARD OF 'omnibuslaw.SchedWaits'. -/
def schedWaitsCard : Claim7 := { stood := { row := schedWaitsRow, standIns := [], harness := (true, "7a122d3eb6195b00d015e7adde692f62a78ab9c834c994194735a9b8b483f0ef"), looks := false }, kinds := [], alts := [], laidByText := true, laidKinds := [.data, .data], laidTests := true, laidLooks := .later }
def SchedWaitsCardSaid : Prop := Claim7.holds Tryd.pinned (.plain (OpenSpec.ofChange schedWaitsSpec)) schedWaitsCard

/-- THE TIED CARD OF 'omnibuslaw.SchedBound'. -/
def schedBoundCard : Claim7 := { stood := { row := schedBoundRow, standIns := [], harness := (true, "7a122d3eb6195b00d015e7adde692f62a78ab9c834c994194735a9b8b483f0ef"), looks := false }, kinds := [], alts := [], laidByText := true, laidKinds := [.data, .data], laidTests := true, laidLooks := .later }
def SchedBoundCardSaid : Prop := Claim7.holds Tryd.pinned (.plain (OpenSpec.ofChange schedBoundSpec)) schedBoundCard

/-- THE TIED CARD OF 'omnibuslaw.SchedOne'. -/
def schedOneCard : Claim7 := { stood := { row := schedOneRow, standIns := [], harness := (true, "7a122d3eb6195b00d015e7adde692f62a78ab9c834c994194735a9b8b483f0ef"), looks := false }, kinds := [], alts := [], laidByText := true, laidKinds := [.data, .data], laidTests := true, laidLooks := .later }
def SchedOneCardSaid : Prop := Claim7.holds Tryd.pinned (.plain (OpenSpec.ofChange schedOneSpec)) schedOneCard

/-- THE SECOND FORM's CARD OF 'omnibuslaw.SchedPlay'. -/
def schedPlayUptoCard : Claim7 := { stood := { row := schedPlayUptoRow, standIns := [], harness := (true, "7a122d3eb6195b00d015e7adde692f62a78ab9c834c994194735a9b8b483f0ef"), looks := false }, kinds := [], alts := [], laidByText := true, laidKinds := [.data, .data, .data, .data, .data], laidTests := true, laidLooks := .later }
def SchedPlayUptoCardSaid : Prop := Claim7.holds Tryd.pinned (.plain (OpenSpec.upto schedPlaySpec)) schedPlayUptoCard

/-- THE SECOND FORM's CARD OF 'omnibuslaw.SchedWaits'. -/
def schedWaitsUptoCard : Claim7 := { stood := { row := schedWaitsUptoRow, standIns := [], harness := (true, "7a122d3eb6195b00d015e7adde692f62a78ab9c834c994194735a9b8b483f0ef"), looks := false }, kinds := [], alts := [], laidByText := true, laidKinds := [.data, .data], laidTests := true, laidLooks := .later }
def SchedWaitsUptoCardSaid : Prop := Claim7.holds Tryd.pinned (.plain (OpenSpec.upto schedWaitsSpec)) schedWaitsUptoCard

/-- THE SECOND FORM's CARD OF 'omnibuslaw.SchedBound'. -/
def schedBoundUptoCard : Claim7 := { stood := { row := schedBoundUptoRow, standIns := [], harness := (true, "7a122d3eb6195b00d015e7adde692f62a78ab9c834c994194735a9b8b483f0ef"), looks := false }, kinds := [], alts := [], laidByText := true, laidKinds := [.data, .data], laidTests := true, laidLooks := .later }
def SchedBoundUptoCardSaid : Prop := Claim7.holds Tryd.pinned (.plain (OpenSpec.upto schedBoundSpec)) schedBoundUptoCard

/-- THE SECOND FORM's CARD OF 'omnibuslaw.SchedOne'. -/
def schedOneUptoCard : Claim7 := { stood := { row := schedOneUptoRow, standIns := [], harness := (true, "7a122d3eb6195b00d015e7adde692f62a78ab9c834c994194735a9b8b483f0ef"), looks := false }, kinds := [], alts := [], laidByText := true, laidKinds := [.data, .data], laidTests := true, laidLooks := .later }
def SchedOneUptoCardSaid : Prop := Claim7.holds Tryd.pinned (.plain (OpenSpec.upto schedOneSpec)) schedOneUptoCard
end Rows
end Go.Proofs.YtnhnemmddgofnaaDoor
