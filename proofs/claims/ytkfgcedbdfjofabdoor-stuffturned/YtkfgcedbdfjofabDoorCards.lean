/-
  DERIVED. GIVEN WITH THE SEED: THE CARDS: each row of YtkfgcedbdfjofabDoorRows.lean that lists a variable, with what it lists TIED to the program's text (the seventh form; the later family's looks); each row that meets fmt, with fmt's text TOLD by the authors' own Lean function (tested against real Go, not proved from fmt's source: count such statements apart). THE CARD IS WHAT COUNTS. Prove the row's statement (the work); the ties are given (YtkfgcedbdfjofabDoorTie.lean); close each card by the builder's one call (the guide's Derived/Test/ToyasCard.lean, 'card_holds'). Laid BY PROGRAM, IN A SANDBOX (cutbox-door.mjs). By AI agents, Wed Nov 11 2026. No macro, syntax, notation, axiom, sorry.
-/
import Derived.Test.YtkfgcedbdfjofabDoorRows
import GoSem.ClaimSeven
namespace Go.Proofs.YtkfgcedbdfjofabDoor
namespace Rows

/-- THE TIED CARD OF 'omnibuslaw.StuffTurned'. -/
def stuffTurnedCard : Claim7 := { stood := { row := stuffTurnedRow, standIns := [], harness := (true, "a9c9a8790a733b5367c85552001aa466c1af78cfd6653ccf9d1651af82b4446d"), looks := false }, kinds := [], alts := [], laidByText := true, laidKinds := [.data, .pinned], laidTests := true, laidLooks := .later }
def StuffTurnedCardSaid : Prop := Claim7.holds Tryd.pinned (.plain (OpenSpec.ofChange stuffTurnedSpec)) stuffTurnedCard

/-- THE SECOND FORM's CARD OF 'omnibuslaw.StuffTurned'. -/
def stuffTurnedUptoCard : Claim7 := { stood := { row := stuffTurnedUptoRow, standIns := [], harness := (true, "a9c9a8790a733b5367c85552001aa466c1af78cfd6653ccf9d1651af82b4446d"), looks := false }, kinds := [], alts := [], laidByText := true, laidKinds := [.data, .pinned], laidTests := true, laidLooks := .later }
def StuffTurnedUptoCardSaid : Prop := Claim7.holds Tryd.pinned (.plain (OpenSpec.upto stuffTurnedSpec)) stuffTurnedUptoCard
end Rows
end Go.Proofs.YtkfgcedbdfjofabDoor
