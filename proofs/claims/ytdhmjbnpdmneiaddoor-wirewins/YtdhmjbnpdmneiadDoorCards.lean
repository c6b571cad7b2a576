/-
  DERIVED. GIVEN WITH THE SEED: THE CARDS: each row of YtdhmjbnpdmneiadDoorRows.lean that lists a variable, with what it lists TIED to the program's text (the seventh form; the later family's looks); each row that meets fmt, with fmt's text TOLD by the authors' own Lean function (tested against real Go, not proved from fmt's source: count such statements apart). THE CARD IS WHAT COUNTS. Prove the row's statement (the work); the ties are given (YtdhmjbnpdmneiadDoorTie.lean); close each card by the builder's one call (the guide's Derived/Test/ToyasCard.lean, 'card_holds'). Laid BY PROGRAM, IN A SANDBOX (cutbox-door.mjs). By AI agents, Wed Nov 11 2026. No macro, syntax, notation, axiom, sorry.
-/
import Derived.Test.YtdhmjbnpdmneiadDoorRows
import GoSem.ClaimSeven
namespace Go.Proofs.YtdhmjbnpdmneiadDoor
namespace Rows

/-- THE TIED CARD OF 'omnibuslaw.WireFirst'. -/
def wireFirstCard : Claim7 := { stood := { row := wireFirstRow, standIns := [], harness := (true, "d3b90e7c628bc26deac27f68d7ce150b0cdbab9269aa2d5bd7d23cd9cdead91b"), looks := false }, kinds := [], alts := [], laidByText := true, laidKinds := [.data, .data, .data, .data, .data], laidTests := true, laidLooks := .later }
def WireFirstCardSaid : Prop := Claim7.holds Tryd.pinned (.plain (OpenSpec.ofChange wireFirstSpec)) wireFirstCard

/-- THE TIED CARD OF 'omnibuslaw.WireWins'. -/
def wireWinsCard : Claim7 := { stood := { row := wireWinsRow, standIns := [], harness := (true, "d3b90e7c628bc26deac27f68d7ce150b0cdbab9269aa2d5bd7d23cd9cdead91b"), looks := false }, kinds := [], alts := [], laidByText := true, laidKinds := [.data, .data], laidTests := true, laidLooks := .later }
def WireWinsCardSaid : Prop := Claim7.holds Tryd.pinned (.plain (OpenSpec.ofChange wireWinsSpec)) wireWinsCard

/-- THE TIED CARD OF 'omnibuslaw.HealthStep'. -/
def healthStepCard : Claim7 := { stood := { row := healthStepRow, standIns := [], harness := (true, "d3b90e7c628bc26deac27f68d7ce150b0cdbab9269aa2d5bd7d23cd9cdead91b"), looks := false }, kinds := [], alts := [], laidByText := true, laidKinds := [.data], laidTests := true, laidLooks := .later }
def HealthStepCardSaid : Prop := Claim7.holds Tryd.pinned (.plain (OpenSpec.ofChange healthStepSpec)) healthStepCard

/-- THE TIED CARD OF 'omnibuslaw.HealthTill'. -/
def healthTillCard : Claim7 := { stood := { row := healthTillRow, standIns := [], harness := (true, "d3b90e7c628bc26deac27f68d7ce150b0cdbab9269aa2d5bd7d23cd9cdead91b"), looks := false }, kinds := [], alts := [], laidByText := true, laidKinds := [.data], laidTests := true, laidLooks := .later }
def HealthTillCardSaid : Prop := Claim7.holds Tryd.pinned (.plain (OpenSpec.ofChange healthTillSpec)) healthTillCard

/-- THE SECOND FORM's CARD OF 'omnibuslaw.WireFirst'. -/
def wireFirstUptoCard : Claim7 := { stood := { row := wireFirstUptoRow, standIns := [], harness := (true, "d3b90e7c628bc26deac27f68d7ce150b0cdbab9269aa2d5bd7d23cd9cdead91b"), looks := false }, kinds := [], alts := [], laidByText := true, laidKinds := [.data, .data, .data, .data, .data], laidTests := true, laidLooks := .later }
def WireFirstUptoCardSaid : Prop := Claim7.holds Tryd.pinned (.plain (OpenSpec.upto wireFirstSpec)) wireFirstUptoCard

/-- THE SECOND FORM's CARD OF 'omnibuslaw.WireWins'. -/
def wireWinsUptoCard : Claim7 := { stood := { row := wireWinsUptoRow, standIns := [], harness := (true, "d3b90e7c628bc26deac27f68d7ce150b0cdbab9269aa2d5bd7d23cd9cdead91b"), looks := false }, kinds := [], alts := [], laidByText := true, laidKinds := [.data, .data], laidTests := true, laidLooks := .later }
def WireWinsUptoCardSaid : Prop := Claim7.holds Tryd.pinned (.plain (OpenSpec.upto wireWinsSpec)) wireWinsUptoCard

/-- THE SECOND FORM's CARD OF 'omnibuslaw.HealthStep'. -/
def healthStepUptoCard : Claim7 := { stood := { row := healthStepUptoRow, standIns := [], harness := (true, "d3b90e7c628bc26deac27f68d7ce150b0cdbab9269aa2d5bd7d23cd9cdead91b"), looks := false }, kinds := [], alts := [], laidByText := true, laidKinds := [.data], laidTests := true, laidLooks := .later }
def HealthStepUptoCardSaid : Prop := Claim7.holds Tryd.pinned (.plain (OpenSpec.upto healthStepSpec)) healthStepUptoCard

/-- THE SECOND FORM's CARD OF 'omnibuslaw.HealthTill'. -/
def healthTillUptoCard : Claim7 := { stood := { row := healthTillUptoRow, standIns := [], harness := (true, "d3b90e7c628bc26deac27f68d7ce150b0cdbab9269aa2d5bd7d23cd9cdead91b"), looks := false }, kinds := [], alts := [], laidByText := true, laidKinds := [.data], laidTests := true, laidLooks := .later }
def HealthTillUptoCardSaid : Prop := Claim7.holds Tryd.pinned (.plain (OpenSpec.upto healthTillSpec)) healthTillUptoCard
end Rows
end Go.Proofs.YtdhmjbnpdmneiadDoor
