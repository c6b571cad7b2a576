/-
  DERIVED. GIVEN WITH THE SEED: THE CARDS: each row of YthdffdobkampaaaDoorRows.lean that lists a variable, with what it lists TIED to the program's text (the seventh form; the later family's looks); each row that meets fmt, with fmt's text TOLD by the authors' own Lean function (tested against real Go, not proved from fmt's source: count such statements apart). THE CARD IS WHAT COUNTS. Prove the row's statement (the work); the ties are given (YthdffdobkampaaaDoorTie.lean); close each card by the builder's one call (the guide's Derived/Test/ToyasCard.lean, 'card_holds'). Laid BY PROGRAM, IN A SANDBOX (cutbox-door.mjs). By AI agents, Wed Nov 11 2026. No macro, syntax, notation, axiom, sorry.
-/
import Derived.Test.YthdffdobkampaaaDoorRows
import GoSem.ClaimSeven
namespace Go.Proofs.YthdffdobkampaaaDoor
namespace Rows

/-- THE TIED CARD OF 'omnibuslaw.QueuePut'. -/
def queuePutCard : Claim7 := { stood := { row := queuePutRow, standIns := [], harness := (true, "ba8913349709ae32235a8ddd3124ec85f95c4a335d7bd13ba10061375d1631cc"), looks := false }, kinds := [], alts := [], laidByText := true, laidKinds := [.data, .data, .data, .data], laidTests := true, laidLooks := .later }
def QueuePutCardSaid : Prop := Claim7.holds Tryd.pinned (.plain (OpenSpec.ofChange queuePutSpec)) queuePutCard

/-- THE TIED CARD OF 'omnibuslaw.QueueMerge'. -/
def queueMergeCard : Claim7 := { stood := { row := queueMergeRow, standIns := [], harness := (true, "ba8913349709ae32235a8ddd3124ec85f95c4a335d7bd13ba10061375d1631cc"), looks := false }, kinds := [], alts := [], laidByText := true, laidKinds := [.data, .data, .data, .data], laidTests := true, laidLooks := .later }
def QueueMergeCardSaid : Prop := Claim7.holds Tryd.pinned (.plain (OpenSpec.ofChange queueMergeSpec)) queueMergeCard

/-- THE TIED CARD OF 'omnibuslaw.QueueRow'. -/
def queueRowCard : Claim7 := { stood := { row := queueRowRow, standIns := [], harness := (true, "ba8913349709ae32235a8ddd3124ec85f95c4a335d7bd13ba10061375d1631cc"), looks := false }, kinds := [], alts := [], laidByText := true, laidKinds := [.data, .data, .data, .data], laidTests := true, laidLooks := .later }
def QueueRowCardSaid : Prop := Claim7.holds Tryd.pinned (.plain (OpenSpec.ofChange queueRowSpec)) queueRowCard

/-- THE TIED CARD OF 'omnibuslaw.QueueBoth'. -/
def queueBothCard : Claim7 := { stood := { row := queueBothRow, standIns := [], harness := (true, "ba8913349709ae32235a8ddd3124ec85f95c4a335d7bd13ba10061375d1631cc"), looks := false }, kinds := [], alts := [], laidByText := true, laidKinds := [.data], laidTests := true, laidLooks := .later }
def QueueBothCardSaid : Prop := Claim7.holds Tryd.pinned (.plain (OpenSpec.ofChange queueBothSpec)) queueBothCard

/-- THE SECOND FORM's CARD OF 'omnibuslaw.QueuePut'. -/
def queuePutUptoCard : Claim7 := { stood := { row := queuePutUptoRow, standIns := [], harness := (true, "ba8913349709ae32235a8ddd3124ec85f95c4a335d7bd13ba10061375d1631cc"), looks := false }, kinds := [], alts := [], laidByText := true, laidKinds := [.data, .data, .data, .data], laidTests := true, laidLooks := .later }
def QueuePutUptoCardSaid : Prop := Claim7.holds Tryd.pinned (.plain (OpenSpec.upto queuePutSpec)) queuePutUptoCard

/-- THE SECOND FORM's CARD OF 'omnibuslaw.QueueMerge'. -/
def queueMergeUptoCard : Claim7 := { stood := { row := queueMergeUptoRow, standIns := [], harness := (true, "ba8913349709ae32235a8ddd3124ec85f95c4a335d7bd13ba10061375d1631cc"), looks := false }, kinds := [], alts := [], laidByText := true, laidKinds := [.data, .data, .data, .data], laidTests := true, laidLooks := .later }
def QueueMergeUptoCardSaid : Prop := Claim7.holds Tryd.pinned (.plain (OpenSpec.upto queueMergeSpec)) queueMergeUptoCard

/-- THE SECOND FORM's CARD OF 'omnibuslaw.QueueRow'. -/
def queueRowUptoCard : Claim7 := { stood := { row := queueRowUptoRow, standIns := [], harness := (true, "ba8913349709ae32235a8ddd3124ec85f95c4a335d7bd13ba10061375d1631cc"), looks := false }, kinds := [], alts := [], laidByText := true, laidKinds := [.data, .data, .data, .data], laidTests := true, laidLooks := .later }
def QueueRowUptoCardSaid : Prop := Claim7.holds Tryd.pinned (.plain (OpenSpec.upto queueRowSpec)) queueRowUptoCard

/-- THE SECOND FORM's CARD OF 'omnibuslaw.QueueBoth'. -/
def queueBothUptoCard : Claim7 := { stood := { row := queueBothUptoRow, standIns := [], harness := (true, "ba8913349709ae32235a8ddd3124ec85f95c4a335d7bd13ba10061375d1631cc"), looks := false }, kinds := [], alts := [], laidByText := true, laidKinds := [.data], laidTests := true, laidLooks := .later }
def QueueBothUptoCardSaid : Prop := Claim7.holds Tryd.pinned (.plain (OpenSpec.upto queueBothSpec)) queueBothUptoCard
end Rows
end Go.Proofs.YthdffdobkampaaaDoor
