/-
  DERIVED. GIVEN WITH THE SEED: THE CARDS: each row of YtdhmjbnpdmneiacDoorRows.lean that lists a variable, with what it lists TIED to the program's text (the seventh form; the later family's looks); each row that meets fmt, with fmt's text TOLD by the authors' own Lean function (tested against real Go, not proved from fmt's source: count such statements apart). THE CARD IS WHAT COUNTS. Prove the row's statement (the work); the ties are given (YtdhmjbnpdmneiacDoorTie.lean); close each card by the builder's one call (the guide's Derived/Test/ToyasCard.lean, 'card_holds'). Laid BY PROGRAM, IN A SANDBOX (cutbox-door.mjs). By AI agents, Wed Nov 11 2026. No macro, syntax, notation, axiom, sorry.
-/
import Derived.Test.YtdhmjbnpdmneiacDoorRows
import GoSem.ClaimSeven
namespace Go.Proofs.YtdhmjbnpdmneiacDoor
namespace Rows

/-- THE TIED CARD OF 'omnibuslaw.CheckAdds'. -/
def checkAddsCard : Claim7 := { stood := { row := checkAddsRow, standIns := [], harness := (true, "9c48e5852894d4159894c1b863efede46ff027f39cf53946432bd783126a25ca"), looks := false }, kinds := [], alts := [], laidByText := true, laidKinds := [.data], laidTests := true, laidLooks := .later }
def CheckAddsCardSaid : Prop := Claim7.holds Tryd.pinned (.plain (OpenSpec.ofChange checkAddsSpec)) checkAddsCard

/-- THE TIED CARD OF 'omnibuslaw.FrameLongest'. -/
def frameLongestCard : Claim7 := { stood := { row := frameLongestRow, standIns := [], harness := (true, "9c48e5852894d4159894c1b863efede46ff027f39cf53946432bd783126a25ca"), looks := false }, kinds := [], alts := [], laidByText := true, laidKinds := [.data, .data, .data, .data, .data], laidTests := true, laidLooks := .later }
def FrameLongestCardSaid : Prop := Claim7.holds Tryd.pinned (.plain (OpenSpec.ofChange frameLongestSpec)) frameLongestCard

/-- THE TIED CARD OF 'omnibuslaw.FrameBack'. -/
def frameBackCard : Claim7 := { stood := { row := frameBackRow, standIns := [], harness := (true, "9c48e5852894d4159894c1b863efede46ff027f39cf53946432bd783126a25ca"), looks := false }, kinds := [], alts := [], laidByText := true, laidKinds := [.data, .data], laidTests := true, laidLooks := .later }
def FrameBackCardSaid : Prop := Claim7.holds Tryd.pinned (.plain (OpenSpec.ofChange frameBackSpec)) frameBackCard

/-- THE TIED CARD OF 'omnibuslaw.FrameHeard'. -/
def frameHeardCard : Claim7 := { stood := { row := frameHeardRow, standIns := [], harness := (true, "9c48e5852894d4159894c1b863efede46ff027f39cf53946432bd783126a25ca"), looks := false }, kinds := [], alts := [], laidByText := true, laidKinds := [.data, .data], laidTests := true, laidLooks := .later }
def FrameHeardCardSaid : Prop := Claim7.holds Tryd.pinned (.plain (OpenSpec.ofChange frameHeardSpec)) frameHeardCard

/-- THE SECOND FORM's CARD OF 'omnibuslaw.CheckAdds'. -/
def checkAddsUptoCard : Claim7 := { stood := { row := checkAddsUptoRow, standIns := [], harness := (true, "9c48e5852894d4159894c1b863efede46ff027f39cf53946432bd783126a25ca"), looks := false }, kinds := [], alts := [], laidByText := true, laidKinds := [.data], laidTests := true, laidLooks := .later }
def CheckAddsUptoCardSaid : Prop := Claim7.holds Tryd.pinned (.plain (OpenSpec.upto checkAddsSpec)) checkAddsUptoCard

/-- THE SECOND FORM's CARD OF 'omnibuslaw.FrameLongest'. -/
def frameLongestUptoCard : Claim7 := { stood := { row := frameLongestUptoRow, standIns := [], harness := (true, "9c48e5852894d4159894c1b863efede46ff027f39cf53946432bd783126a25ca"), looks := false }, kinds := [], alts := [], laidByText := true, laidKinds := [.data, .data, .data, .data, .data], laidTests := true, laidLooks := .later }
def FrameLongestUptoCardSaid : Prop := Claim7.holds Tryd.pinned (.plain (OpenSpec.upto frameLongestSpec)) frameLongestUptoCard

/-- THE SECOND FORM's CARD OF 'omnibuslaw.FrameBack'. -/
def frameBackUptoCard : Claim7 := { stood := { row := frameBackUptoRow, standIns := [], harness := (true, "9c48e5852894d4159894c1b863efede46ff027f39cf53946432bd783126a25ca"), looks := false }, kinds := [], alts := [], laidByText := true, laidKinds := [.data, .data], laidTests := true, laidLooks := .later }
def FrameBackUptoCardSaid : Prop := Claim7.holds Tryd.pinned (.plain (OpenSpec.upto frameBackSpec)) frameBackUptoCard

/-- THE SECOND FORM's CARD OF 'omnibuslaw.FrameHeard'. -/
def frameHeardUptoCard : Claim7 := { stood := { row := frameHeardUptoRow, standIns := [], harness := (true, "9c48e5852894d4159894c1b863efede46ff027f39cf53946432bd783126a25ca"), looks := false }, kinds := [], alts := [], laidByText := true, laidKinds := [.data, .data], laidTests := true, laidLooks := .later }
def FrameHeardUptoCardSaid : Prop := Claim7.holds Tryd.pinned (.plain (OpenSpec.upto frameHeardSpec)) frameHeardUptoCard
end Rows
end Go.Proofs.YtdhmjbnpdmneiacDoor
