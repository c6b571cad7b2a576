/-
  DERIVED. GIVEN WITH THE SEED: THE CARDS: each row of YtikfdhhcicgppaaDoorRows.lean that lists a variable, with what it lists TIED to the program's text (the seventh form; the later family's looks); each row that meets fmt, with fmt's text TOLD by the authors' own Lean function (tested against real Go, not proved from fmt's source: count such statements apart). THE CARD IS WHAT COUNTS. Prove the row's statement (the work); the ties are given (YtikfdhhcicgppaaDoorTie.lean); close each card by the builder's one call (the guide's Derived/Test/ToyasCard.lean, 'card_holds'). Laid BY PROGRAM, IN A SANDBOX (cutbox-door.mjs). By AI agents, Wed Nov 11 2026. No macro, syntax, notation, axiom, sorry.
-/
import Derived.Test.YtikfdhhcicgppaaDoorRows
import GoSem.ClaimSeven
namespace Go.Proofs.YtikfdhhcicgppaaDoor
namespace Rows

/-- THE TIED CARD OF 'omnibuslaw.DelayWorst'. -/
def delayWorstCard : Claim7 := { stood := { row := delayWorstRow, standIns := [], harness := (true, "229a53434ce399d5c129b1ae93ddc7c58beafee8f0ea858b11bbe30e470977d6"), looks := false }, kinds := [], alts := [], laidByText := true, laidKinds := [.data, .data, .data, .data, .data], laidTests := true, laidLooks := .later }
def DelayWorstCardSaid : Prop := Claim7.holds Tryd.pinned (.plain (OpenSpec.ofChange delayWorstSpec)) delayWorstCard

/-- THE TIED CARD OF 'omnibuslaw.DelayMore'. -/
def delayMoreCard : Claim7 := { stood := { row := delayMoreRow, standIns := [], harness := (true, "229a53434ce399d5c129b1ae93ddc7c58beafee8f0ea858b11bbe30e470977d6"), looks := false }, kinds := [], alts := [], laidByText := true, laidKinds := [.data, .data], laidTests := true, laidLooks := .later }
def DelayMoreCardSaid : Prop := Claim7.holds Tryd.pinned (.plain (OpenSpec.ofChange delayMoreSpec)) delayMoreCard

/-- THE SECOND FORM's CARD OF 'omnibuslaw.DelayWorst'. -/
def delayWorstUptoCard : Claim7 := { stood := { row := delayWorstUptoRow, standIns := [], harness := (true, "229a53434ce399d5c129b1ae93ddc7c58beafee8f0ea858b11bbe30e470977d6"), looks := false }, kinds := [], alts := [], laidByText := true, laidKinds := [.data, .data, .data, .data, .data], laidTests := true, laidLooks := .later }
def DelayWorstUptoCardSaid : Prop := Claim7.holds Tryd.pinned (.plain (OpenSpec.upto delayWorstSpec)) delayWorstUptoCard

/-- THE SECOND FORM's CARD OF 'omnibuslaw.DelayMore'. -/
def delayMoreUptoCard : Claim7 := { stood := { row := delayMoreUptoRow, standIns := [], harness := (true, "229a53434ce399d5c129b1ae93ddc7c58beafee8f0ea858b11bbe30e470977d6"), looks := false }, kinds := [], alts := [], laidByText := true, laidKinds := [.data, .data], laidTests := true, laidLooks := .later }
def DelayMoreUptoCardSaid : Prop := Claim7.holds Tryd.pinned (.plain (OpenSpec.upto delayMoreSpec)) delayMoreUptoCard
end Rows
end Go.Proofs.YtikfdhhcicgppaaDoor
