/-
  DERIVED. GIVEN WITH THE SEED: THE CARDS: each row of YtopoogdoepdedaaDoorRows.lean that lists a variable, with what it lists TIED to the program's text (the seventh form; the later family's looks); each row that meets fmt, with fmt's text TOLD by the authors' own Lean function (tested against real Go, not proved from fmt's source: count such statements apart). THE CARD IS WHAT COUNTS. Prove the row's statement (the work); the ties are given (YtopoogdoepdedaaDoorTie.lean); close each card by the builder's one call (the guide's Derived/Test/ToyasCard.lean, 'card_holds'). Laid BY PROGRAM, IN A SANDBOX (cutbox-door.mjs). By AI agents, Wed Nov 11 2026. No macro, syntax, notation, axiom, sorry.
-/
import Derived.Test.YtopoogdoepdedaaDoorRows
import GoSem.ClaimSeven
namespace Go.Proofs.YtopoogdoepdedaaDoor
namespace Rows

/-- THE TIED CARD OF 'omnibuslaw.GuardPut'. -/
def guardPutCard : Claim7 := { stood := { row := guardPutRow, standIns := [], harness := (true, "e0f1ef5248e98da2f127e7d2ed41fef52789862848a546bdc4d583286a828475"), looks := false }, kinds := [], alts := [], laidByText := true, laidKinds := [.data, .data, .data, .data], laidTests := true, laidLooks := .later }
def GuardPutCardSaid : Prop := Claim7.holds Tryd.pinned (.plain (OpenSpec.ofChange guardPutSpec)) guardPutCard

/-- THE TIED CARD OF 'omnibuslaw.GuardRow'. -/
def guardRowCard : Claim7 := { stood := { row := guardRowRow, standIns := [], harness := (true, "e0f1ef5248e98da2f127e7d2ed41fef52789862848a546bdc4d583286a828475"), looks := false }, kinds := [], alts := [], laidByText := true, laidKinds := [.data], laidTests := true, laidLooks := .later }
def GuardRowCardSaid : Prop := Claim7.holds Tryd.pinned (.plain (OpenSpec.ofChange guardRowSpec)) guardRowCard

/-- THE SECOND FORM's CARD OF 'omnibuslaw.GuardPut'. -/
def guardPutUptoCard : Claim7 := { stood := { row := guardPutUptoRow, standIns := [], harness := (true, "e0f1ef5248e98da2f127e7d2ed41fef52789862848a546bdc4d583286a828475"), looks := false }, kinds := [], alts := [], laidByText := true, laidKinds := [.data, .data, .data, .data], laidTests := true, laidLooks := .later }
def GuardPutUptoCardSaid : Prop := Claim7.holds Tryd.pinned (.plain (OpenSpec.upto guardPutSpec)) guardPutUptoCard

/-- THE SECOND FORM's CARD OF 'omnibuslaw.GuardRow'. -/
def guardRowUptoCard : Claim7 := { stood := { row := guardRowUptoRow, standIns := [], harness := (true, "e0f1ef5248e98da2f127e7d2ed41fef52789862848a546bdc4d583286a828475"), looks := false }, kinds := [], alts := [], laidByText := true, laidKinds := [.data], laidTests := true, laidLooks := .later }
def GuardRowUptoCardSaid : Prop := Claim7.holds Tryd.pinned (.plain (OpenSpec.upto guardRowSpec)) guardRowUptoCard
end Rows
end Go.Proofs.YtopoogdoepdedaaDoor
