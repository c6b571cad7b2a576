/-
  DERIVED. GIVEN WITH THE SEED: THE CARDS: each row of YtgjkioknnjbjfaaDoorRows.lean that lists a variable, with what it lists TIED to the program's text (the seventh form; the later family's looks); each row that meets fmt, with fmt's text TOLD by the authors' own Lean function (tested against real Go, not proved from fmt's source: count such statements apart). THE CARD IS WHAT COUNTS. Prove the row's statement (the work); the ties are given (YtgjkioknnjbjfaaDoorTie.lean); close each card by the builder's one call (the guide's Derived/Test/ToyasCard.lean, 'card_holds'). Laid BY PROGRAM, IN A SANDBOX (cutbox-door.mjs). By AI agents, Wed Nov 11 2026. No macro, syntax, notation, axiom, sorry.
-/
import Derived.Test.YtgjkioknnjbjfaaDoorRows
import GoSem.ClaimSeven
namespace Go.Proofs.YtgjkioknnjbjfaaDoor
namespace Rows

/-- THE TIED CARD OF 'omnibuslaw.MessageCheck'. -/
def messageCheckCard : Claim7 := { stood := { row := messageCheckRow, standIns := [], harness := (true, "ea35532e7208e72478f613d45d1fdd22104c45be1a4e336c7ab77d72c2b15573"), looks := false }, kinds := [], alts := [], laidByText := true, laidKinds := [.data, .data, .pinned], laidTests := true, laidLooks := .later }
def MessageCheckCardSaid : Prop := Claim7.holds Tryd.pinned (.plain (OpenSpec.ofChange messageCheckSpec)) messageCheckCard

/-- THE TIED CARD OF 'omnibuslaw.MessageBack'. -/
def messageBackCard : Claim7 := { stood := { row := messageBackRow, standIns := [], harness := (true, "ea35532e7208e72478f613d45d1fdd22104c45be1a4e336c7ab77d72c2b15573"), looks := false }, kinds := [], alts := [], laidByText := true, laidKinds := [.data], laidTests := true, laidLooks := .later }
def MessageBackCardSaid : Prop := Claim7.holds Tryd.pinned (.plain (OpenSpec.ofChange messageBackSpec)) messageBackCard

/-- THE TIED CARD OF 'omnibuslaw.MessageFound'. -/
def messageFoundCard : Claim7 := { stood := { row := messageFoundRow, standIns := [], harness := (true, "ea35532e7208e72478f613d45d1fdd22104c45be1a4e336c7ab77d72c2b15573"), looks := false }, kinds := [], alts := [], laidByText := true, laidKinds := [.data], laidTests := true, laidLooks := .later }
def MessageFoundCardSaid : Prop := Claim7.holds Tryd.pinned (.plain (OpenSpec.ofChange messageFoundSpec)) messageFoundCard

/-- THE SECOND FORM's CARD OF 'omnibuslaw.MessageCheck'. -/
def messageCheckUptoCard : Claim7 := { stood := { row := messageCheckUptoRow, standIns := [], harness := (true, "ea35532e7208e72478f613d45d1fdd22104c45be1a4e336c7ab77d72c2b15573"), looks := false }, kinds := [], alts := [], laidByText := true, laidKinds := [.data, .data, .pinned], laidTests := true, laidLooks := .later }
def MessageCheckUptoCardSaid : Prop := Claim7.holds Tryd.pinned (.plain (OpenSpec.upto messageCheckSpec)) messageCheckUptoCard

/-- THE SECOND FORM's CARD OF 'omnibuslaw.MessageBack'. -/
def messageBackUptoCard : Claim7 := { stood := { row := messageBackUptoRow, standIns := [], harness := (true, "ea35532e7208e72478f613d45d1fdd22104c45be1a4e336c7ab77d72c2b15573"), looks := false }, kinds := [], alts := [], laidByText := true, laidKinds := [.data], laidTests := true, laidLooks := .later }
def MessageBackUptoCardSaid : Prop := Claim7.holds Tryd.pinned (.plain (OpenSpec.upto messageBackSpec)) messageBackUptoCard

/-- THE SECOND FORM's CARD OF 'omnibuslaw.MessageFound'. -/
def messageFoundUptoCard : Claim7 := { stood := { row := messageFoundUptoRow, standIns := [], harness := (true, "ea35532e7208e72478f613d45d1fdd22104c45be1a4e336c7ab77d72c2b15573"), looks := false }, kinds := [], alts := [], laidByText := true, laidKinds := [.data], laidTests := true, laidLooks := .later }
def MessageFoundUptoCardSaid : Prop := Claim7.holds Tryd.pinned (.plain (OpenSpec.upto messageFoundSpec)) messageFoundUptoCard
end Rows
end Go.Proofs.YtgjkioknnjbjfaaDoor
