/-
  DERIVED. GIVEN WITH THE SEED: THE CARDS: each row of YtdhmjbnpdmneiabDoorRows.lean that lists a variable, with what it lists TIED to the program's text (the seventh form; the later family's looks); each row that meets fmt, with fmt's text TOLD by the authors' own Lean function (tested against real Go, not proved from fmt's source: count such statements apart). THE CARD IS WHAT COUNTS. Prove the row's statement (the work); the ties are given (YtdhmjbnpdmneiabDoorTie.lean); close each card by the builder's one call (the guide's Derived/Test/ToyasCard.lean, 'card_holds'). Laid BY PROGRAM, IN A SANDBOX (cutbox-door.mjs). By AI agents, Wed Nov 11 2026. No macro, syntax, notation, axiom, sorry.
-/
import Derived.Test.YtdhmjbnpdmneiabDoorRows
import GoSem.ClaimSeven
namespace Go.Proofs.YtdhmjbnpdmneiabDoor
namespace Rows

/-- THE TIED CARD OF 'omnibuslaw.StuffTurned'. -/
def stuffTurnedCard : Claim7 := { stood := { row := stuffTurnedRow, standIns := [], harness := (true, "c686aca9d7c8674d2eb6eca7dc5d9f149a4813ef9ab99eabda0942e15998c7e0"), looks := false }, kinds := [], alts := [], laidByText := true, laidKinds := [.data, .pinned], laidTests := true, laidLooks := .later }
def StuffTurnedCardSaid : Prop := Claim7.holds Tryd.pinned (.plain (OpenSpec.ofChange stuffTurnedSpec)) stuffTurnedCard

/-- THE TIED CARD OF 'omnibuslaw.CheckSum'. -/
def checkSumCard : Claim7 := { stood := { row := checkSumRow, standIns := [], harness := (true, "c686aca9d7c8674d2eb6eca7dc5d9f149a4813ef9ab99eabda0942e15998c7e0"), looks := false }, kinds := [], alts := [], laidByText := true, laidKinds := [.data, .data, .data, .data], laidTests := true, laidLooks := .later }
def CheckSumCardSaid : Prop := Claim7.holds Tryd.pinned (.plain (OpenSpec.ofChange checkSumSpec)) checkSumCard

/-- THE TIED CARD OF 'omnibuslaw.CheckSees'. -/
def checkSeesCard : Claim7 := { stood := { row := checkSeesRow, standIns := [], harness := (true, "c686aca9d7c8674d2eb6eca7dc5d9f149a4813ef9ab99eabda0942e15998c7e0"), looks := false }, kinds := [], alts := [], laidByText := true, laidKinds := [.data], laidTests := true, laidLooks := .later }
def CheckSeesCardSaid : Prop := Claim7.holds Tryd.pinned (.plain (OpenSpec.ofChange checkSeesSpec)) checkSeesCard

/-- THE SECOND FORM's CARD OF 'omnibuslaw.StuffTurned'. -/
def stuffTurnedUptoCard : Claim7 := { stood := { row := stuffTurnedUptoRow, standIns := [], harness := (true, "c686aca9d7c8674d2eb6eca7dc5d9f149a4813ef9ab99eabda0942e15998c7e0"), looks := false }, kinds := [], alts := [], laidByText := true, laidKinds := [.data, .pinned], laidTests := true, laidLooks := .later }
def StuffTurnedUptoCardSaid : Prop := Claim7.holds Tryd.pinned (.plain (OpenSpec.upto stuffTurnedSpec)) stuffTurnedUptoCard

/-- THE SECOND FORM's CARD OF 'omnibuslaw.CheckSum'. -/
def checkSumUptoCard : Claim7 := { stood := { row := checkSumUptoRow, standIns := [], harness := (true, "c686aca9d7c8674d2eb6eca7dc5d9f149a4813ef9ab99eabda0942e15998c7e0"), looks := false }, kinds := [], alts := [], laidByText := true, laidKinds := [.data, .data, .data, .data], laidTests := true, laidLooks := .later }
def CheckSumUptoCardSaid : Prop := Claim7.holds Tryd.pinned (.plain (OpenSpec.upto checkSumSpec)) checkSumUptoCard

/-- THE SECOND FORM's CARD OF 'omnibuslaw.CheckSees'. -/
def checkSeesUptoCard : Claim7 := { stood := { row := checkSeesUptoRow, standIns := [], harness := (true, "c686aca9d7c8674d2eb6eca7dc5d9f149a4813ef9ab99eabda0942e15998c7e0"), looks := false }, kinds := [], alts := [], laidByText := true, laidKinds := [.data], laidTests := true, laidLooks := .later }
def CheckSeesUptoCardSaid : Prop := Claim7.holds Tryd.pinned (.plain (OpenSpec.upto checkSeesSpec)) checkSeesUptoCard
end Rows
end Go.Proofs.YtdhmjbnpdmneiabDoor
