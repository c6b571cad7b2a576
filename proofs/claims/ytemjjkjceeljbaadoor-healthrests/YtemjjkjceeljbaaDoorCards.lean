/-
  DERIVED. GIVEN WITH THE SEED: THE CARDS: each row of YtemjjkjceeljbaaDoorRows.lean that lists a variable, with what it lists TIED to the program's text (the seventh form; the later family's looks); each row that meets fmt, with fmt's text TOLD by the authors' own Lean function (tested against real Go, not proved from fmt's source: count such statements apart). THE CARD IS WHAT COUNTS. Prove the row's statement (the work); the ties are given (YtemjjkjceeljbaaDoorTie.lean); close each card by the builder's one call (the guide's Derived/Test/ToyasCard.lean, 'card_holds'). Laid BY PROGRAM, IN A SANDBOX (cutbox-door.mjs). By AI agents, Wed Nov 11 2026. No macro, syntax, notation, axiom, sorry.
-/
import Derived.Test.YtemjjkjceeljbaaDoorRows
import GoSem.ClaimSeven
namespace Go.Proofs.YtemjjkjceeljbaaDoor
namespace Rows

/-- THE TIED CARD OF 'omnibuslaw.HealthStep'. -/
def healthStepCard : Claim7 := { stood := { row := healthStepRow, standIns := [], harness := (true, "3fa36feba9583752ac588e98982b12e770110cd0a27a3776305503b5ab7d45e7"), looks := false }, kinds := [], alts := [], laidByText := true, laidKinds := [.data], laidTests := true, laidLooks := .later }
def HealthStepCardSaid : Prop := Claim7.holds Tryd.pinned (.plain (OpenSpec.ofChange healthStepSpec)) healthStepCard

/-- THE TIED CARD OF 'omnibuslaw.HealthTill'. -/
def healthTillCard : Claim7 := { stood := { row := healthTillRow, standIns := [], harness := (true, "3fa36feba9583752ac588e98982b12e770110cd0a27a3776305503b5ab7d45e7"), looks := false }, kinds := [], alts := [], laidByText := true, laidKinds := [.data], laidTests := true, laidLooks := .later }
def HealthTillCardSaid : Prop := Claim7.holds Tryd.pinned (.plain (OpenSpec.ofChange healthTillSpec)) healthTillCard

/-- THE TIED CARD OF 'omnibuslaw.HealthRests'. -/
def healthRestsCard : Claim7 := { stood := { row := healthRestsRow, standIns := [], harness := (true, "3fa36feba9583752ac588e98982b12e770110cd0a27a3776305503b5ab7d45e7"), looks := false }, kinds := [], alts := [], laidByText := true, laidKinds := [.data], laidTests := true, laidLooks := .later }
def HealthRestsCardSaid : Prop := Claim7.holds Tryd.pinned (.plain (OpenSpec.ofChange healthRestsSpec)) healthRestsCard

/-- THE SECOND FORM's CARD OF 'omnibuslaw.HealthStep'. -/
def healthStepUptoCard : Claim7 := { stood := { row := healthStepUptoRow, standIns := [], harness := (true, "3fa36feba9583752ac588e98982b12e770110cd0a27a3776305503b5ab7d45e7"), looks := false }, kinds := [], alts := [], laidByText := true, laidKinds := [.data], laidTests := true, laidLooks := .later }
def HealthStepUptoCardSaid : Prop := Claim7.holds Tryd.pinned (.plain (OpenSpec.upto healthStepSpec)) healthStepUptoCard

/-- THE SECOND FORM's CARD OF 'omnibuslaw.HealthTill'. -/
def healthTillUptoCard : Claim7 := { stood := { row := healthTillUptoRow, standIns := [], harness := (true, "3fa36feba9583752ac588e98982b12e770110cd0a27a3776305503b5ab7d45e7"), looks := false }, kinds := [], alts := [], laidByText := true, laidKinds := [.data], laidTests := true, laidLooks := .later }
def HealthTillUptoCardSaid : Prop := Claim7.holds Tryd.pinned (.plain (OpenSpec.upto healthTillSpec)) healthTillUptoCard

/-- THE SECOND FORM's CARD OF 'omnibuslaw.HealthRests'. -/
def healthRestsUptoCard : Claim7 := { stood := { row := healthRestsUptoRow, standIns := [], harness := (true, "3fa36feba9583752ac588e98982b12e770110cd0a27a3776305503b5ab7d45e7"), looks := false }, kinds := [], alts := [], laidByText := true, laidKinds := [.data], laidTests := true, laidLooks := .later }
def HealthRestsUptoCardSaid : Prop := Claim7.holds Tryd.pinned (.plain (OpenSpec.upto healthRestsSpec)) healthRestsUptoCard
end Rows
end Go.Proofs.YtemjjkjceeljbaaDoor
