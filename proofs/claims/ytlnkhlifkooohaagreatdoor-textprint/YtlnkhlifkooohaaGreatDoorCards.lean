/-
  DERIVED. GIVEN WITH THE SEED: THE CARDS: each row of YtlnkhlifkooohaaGreatDoorRows.lean that lists a variable, with what it lists TIED to the program's text (the seventh form; the later family's looks); each row that meets fmt, with fmt's text TOLD by the authors' own Lean function (tested against real Go, not proved from fmt's source: count such statements apart). THE CARD IS WHAT COUNTS. Prove the row's statement (the work); the ties are given (YtlnkhlifkooohaaGreatDoorTie.lean); close each card by the builder's one call (the guide's Derived/Test/ToyasCard.lean, 'card_holds'). Laid BY PROGRAM, IN A SANDBOX (cutbox-door.mjs). By AI agents, Wed Nov 11 2026. No macro, syntax, notation, axiom, sorry.
-/
import Derived.Test.YtlnkhlifkooohaaGreatDoorRows
import GoSem.ClaimSeven
namespace Go.Proofs.YtlnkhlifkooohaaGreatDoor
namespace Rows

/-- THE TIED CARD OF 'omnibuslaw.MessageWrite'. -/
def messageWriteCard : Claim7 := { stood := { row := messageWriteRow, standIns := [], harness := (true, "a708ec2824bab9881ec84396be895dff4adfd45b895073321db8db1c0c2b17dc"), looks := true }, kinds := [], alts := [], laidByText := true, laidKinds := [.data, .data, .pinned], laidTests := true, laidLooks := .later }
def MessageWriteCardSaid : Prop := Claim7.holds Tryz.pinned (.plain (OpenSpec.ofChange messageWriteSpec)) messageWriteCard

/-- THE TIED CARD OF 'omnibuslaw.MessageRepack'. -/
def messageRepackCard : Claim7 := { stood := { row := messageRepackRow, standIns := [], harness := (true, "a708ec2824bab9881ec84396be895dff4adfd45b895073321db8db1c0c2b17dc"), looks := true }, kinds := [], alts := [], laidByText := true, laidKinds := [.data, .data, .pinned], laidTests := true, laidLooks := .later }
def MessageRepackCardSaid : Prop := Claim7.holds Tryz.pinned (.plain (OpenSpec.ofChange messageRepackSpec)) messageRepackCard

/-- THE TIED CARD OF 'omnibuslaw.TextPrint'. -/
def textPrintCard : Claim7 := { stood := { row := textPrintRow, standIns := [], harness := (true, "a708ec2824bab9881ec84396be895dff4adfd45b895073321db8db1c0c2b17dc"), looks := true }, kinds := [], alts := [], laidByText := true, laidKinds := [.data, .data, .data, .data, .sentinel, .sentinel, .data, .pinned], laidTests := true, laidLooks := .later }
def TextPrintCardSaid : Prop := Claim7.holds Tryz.pinned (.plain (OpenSpec.ofChange textPrintSpec)) textPrintCard

/-- THE TIED CARD OF 'omnibuslaw.TextBack'. -/
def textBackCard : Claim7 := { stood := { row := textBackRow, standIns := [], harness := (true, "a708ec2824bab9881ec84396be895dff4adfd45b895073321db8db1c0c2b17dc"), looks := true }, kinds := [], alts := [], laidByText := true, laidKinds := [.data, .data, .data, .data, .sentinel, .sentinel, .data, .pinned], laidTests := true, laidLooks := .later }
def TextBackCardSaid : Prop := Claim7.holds Tryz.pinned (.plain (OpenSpec.ofChange textBackSpec)) textBackCard

/-- THE SECOND FORM's CARD OF 'omnibuslaw.MessageWrite'. -/
def messageWriteUptoCard : Claim7 := { stood := { row := messageWriteUptoRow, standIns := [], harness := (true, "a708ec2824bab9881ec84396be895dff4adfd45b895073321db8db1c0c2b17dc"), looks := true }, kinds := [], alts := [], laidByText := true, laidKinds := [.data, .data, .pinned], laidTests := true, laidLooks := .later }
def MessageWriteUptoCardSaid : Prop := Claim7.holds Tryz.pinned (.plain (OpenSpec.upto messageWriteSpec)) messageWriteUptoCard

/-- THE SECOND FORM's CARD OF 'omnibuslaw.MessageRepack'. -/
def messageRepackUptoCard : Claim7 := { stood := { row := messageRepackUptoRow, standIns := [], harness := (true, "a708ec2824bab9881ec84396be895dff4adfd45b895073321db8db1c0c2b17dc"), looks := true }, kinds := [], alts := [], laidByText := true, laidKinds := [.data, .data, .pinned], laidTests := true, laidLooks := .later }
def MessageRepackUptoCardSaid : Prop := Claim7.holds Tryz.pinned (.plain (OpenSpec.upto messageRepackSpec)) messageRepackUptoCard

/-- THE SECOND FORM's CARD OF 'omnibuslaw.TextPrint'. -/
def textPrintUptoCard : Claim7 := { stood := { row := textPrintUptoRow, standIns := [], harness := (true, "a708ec2824bab9881ec84396be895dff4adfd45b895073321db8db1c0c2b17dc"), looks := true }, kinds := [], alts := [], laidByText := true, laidKinds := [.data, .data, .data, .data, .sentinel, .sentinel, .data, .pinned], laidTests := true, laidLooks := .later }
def TextPrintUptoCardSaid : Prop := Claim7.holds Tryz.pinned (.plain (OpenSpec.upto textPrintSpec)) textPrintUptoCard

/-- THE SECOND FORM's CARD OF 'omnibuslaw.TextBack'. -/
def textBackUptoCard : Claim7 := { stood := { row := textBackUptoRow, standIns := [], harness := (true, "a708ec2824bab9881ec84396be895dff4adfd45b895073321db8db1c0c2b17dc"), looks := true }, kinds := [], alts := [], laidByText := true, laidKinds := [.data, .data, .data, .data, .sentinel, .sentinel, .data, .pinned], laidTests := true, laidLooks := .later }
def TextBackUptoCardSaid : Prop := Claim7.holds Tryz.pinned (.plain (OpenSpec.upto textBackSpec)) textBackUptoCard
end Rows
end Go.Proofs.YtlnkhlifkooohaaGreatDoor
