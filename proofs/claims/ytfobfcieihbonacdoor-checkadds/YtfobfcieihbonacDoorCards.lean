/-
  DERIVED. GIVEN WITH THE SEED: THE CARDS: each row of YtfobfcieihbonacDoorRows.lean that lists a variable, with what it lists TIED to the program's text (the seventh form; the later family's looks); each row that meets fmt, with fmt's text TOLD by the authors' own Lean function (tested against real Go, not proved from fmt's source: count such statements apart). THE CARD IS WHAT COUNTS. Prove the row's statement (the work); the ties are given (YtfobfcieihbonacDoorTie.lean); close each card by the builder's one call (the guide's Derived/Test/ToyasCard.lean, 'card_holds'). Laid BY PROGRAM, IN A SANDBOX (cutbox-door.mjs). By AI agents, Wed Nov 11 2026. No macro, syntax, notation, axiom, sorry.
-/
import Derived.Test.YtfobfcieihbonacDoorRows
import GoSem.ClaimSeven
namespace Go.Proofs.YtfobfcieihbonacDoor
namespace Rows

/-- THE TIED CARD OF 'omnibuslaw.CheckAdds'. -/
def checkAddsCard : Claim7 := { stood := { row := checkAddsRow, standIns := [], harness := (true, "51e09517e8aa5af13e749fa01ef4cb9e2acbef139e09ae07e52e046bf74278dd"), looks := false }, kinds := [], alts := [], laidByText := true, laidKinds := [.data], laidTests := true, laidLooks := .later }
def CheckAddsCardSaid : Prop := Claim7.holds Tryd.pinned (.plain (OpenSpec.ofChange checkAddsSpec)) checkAddsCard

/-- THE SECOND FORM's CARD OF 'omnibuslaw.CheckAdds'. -/
def checkAddsUptoCard : Claim7 := { stood := { row := checkAddsUptoRow, standIns := [], harness := (true, "51e09517e8aa5af13e749fa01ef4cb9e2acbef139e09ae07e52e046bf74278dd"), looks := false }, kinds := [], alts := [], laidByText := true, laidKinds := [.data], laidTests := true, laidLooks := .later }
def CheckAddsUptoCardSaid : Prop := Claim7.holds Tryd.pinned (.plain (OpenSpec.upto checkAddsSpec)) checkAddsUptoCard
end Rows
end Go.Proofs.YtfobfcieihbonacDoor
