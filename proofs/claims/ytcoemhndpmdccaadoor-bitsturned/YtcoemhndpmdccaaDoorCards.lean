/-
  DERIVED. GIVEN WITH THE SEED: THE CARDS: each row of YtcoemhndpmdccaaDoorRows.lean that lists a variable, with what it lists TIED to the program's text (the seventh form; the later family's looks); each row that meets fmt, with fmt's text TOLD by the authors' own Lean function (tested against real Go, not proved from fmt's source: count such statements apart). THE CARD IS WHAT COUNTS. Prove the row's statement (the work); the ties are given (YtcoemhndpmdccaaDoorTie.lean); close each card by the builder's one call (the guide's Derived/Test/ToyasCard.lean, 'card_holds'). Laid BY PROGRAM, IN A SANDBOX (cutbox-door.mjs). By AI agents, Wed Nov 11 2026. No macro, syntax, notation, axiom, sorry.
-/
import Derived.Test.YtcoemhndpmdccaaDoorRows
import GoSem.ClaimSeven
namespace Go.Proofs.YtcoemhndpmdccaaDoor
namespace Rows

/-- THE TIED CARD OF 'omnibuslaw.BitsNumber'. -/
def bitsNumberCard : Claim7 := { stood := { row := bitsNumberRow, standIns := [], harness := (true, "db0934c3eb792076b5e129d46f6d31759e78a2f77781897fd17e4d2a2536e97a"), looks := true }, kinds := [], alts := [], laidByText := true, laidKinds := [.data, .data, .data], laidTests := true, laidLooks := .later }
def BitsNumberCardSaid : Prop := Claim7.holds Tryd.pinned (.plain (OpenSpec.ofChange bitsNumberSpec)) bitsNumberCard

/-- THE TIED CARD OF 'omnibuslaw.BitsBytes'. -/
def bitsBytesCard : Claim7 := { stood := { row := bitsBytesRow, standIns := [], harness := (true, "db0934c3eb792076b5e129d46f6d31759e78a2f77781897fd17e4d2a2536e97a"), looks := true }, kinds := [], alts := [], laidByText := true, laidKinds := [.data, .data, .data], laidTests := true, laidLooks := .later }
def BitsBytesCardSaid : Prop := Claim7.holds Tryd.pinned (.plain (OpenSpec.ofChange bitsBytesSpec)) bitsBytesCard

/-- THE TIED CARD OF 'omnibuslaw.BitsTurned'. -/
def bitsTurnedCard : Claim7 := { stood := { row := bitsTurnedRow, standIns := [], harness := (true, "db0934c3eb792076b5e129d46f6d31759e78a2f77781897fd17e4d2a2536e97a"), looks := true }, kinds := [], alts := [], laidByText := true, laidKinds := [.data, .pinned], laidTests := true, laidLooks := .later }
def BitsTurnedCardSaid : Prop := Claim7.holds Tryd.pinned (.plain (OpenSpec.ofChange bitsTurnedSpec)) bitsTurnedCard

/-- THE TIED CARD OF 'omnibuslaw.BitsBack'. -/
def bitsBackCard : Claim7 := { stood := { row := bitsBackRow, standIns := [], harness := (true, "db0934c3eb792076b5e129d46f6d31759e78a2f77781897fd17e4d2a2536e97a"), looks := true }, kinds := [], alts := [], laidByText := true, laidKinds := [.data, .pinned], laidTests := true, laidLooks := .later }
def BitsBackCardSaid : Prop := Claim7.holds Tryd.pinned (.plain (OpenSpec.ofChange bitsBackSpec)) bitsBackCard

/-- THE SECOND FORM's CARD OF 'omnibuslaw.BitsNumber'. -/
def bitsNumberUptoCard : Claim7 := { stood := { row := bitsNumberUptoRow, standIns := [], harness := (true, "db0934c3eb792076b5e129d46f6d31759e78a2f77781897fd17e4d2a2536e97a"), looks := true }, kinds := [], alts := [], laidByText := true, laidKinds := [.data, .data, .data], laidTests := true, laidLooks := .later }
def BitsNumberUptoCardSaid : Prop := Claim7.holds Tryd.pinned (.plain (OpenSpec.upto bitsNumberSpec)) bitsNumberUptoCard

/-- THE SECOND FORM's CARD OF 'omnibuslaw.BitsBytes'. -/
def bitsBytesUptoCard : Claim7 := { stood := { row := bitsBytesUptoRow, standIns := [], harness := (true, "db0934c3eb792076b5e129d46f6d31759e78a2f77781897fd17e4d2a2536e97a"), looks := true }, kinds := [], alts := [], laidByText := true, laidKinds := [.data, .data, .data], laidTests := true, laidLooks := .later }
def BitsBytesUptoCardSaid : Prop := Claim7.holds Tryd.pinned (.plain (OpenSpec.upto bitsBytesSpec)) bitsBytesUptoCard

/-- THE SECOND FORM's CARD OF 'omnibuslaw.BitsTurned'. -/
def bitsTurnedUptoCard : Claim7 := { stood := { row := bitsTurnedUptoRow, standIns := [], harness := (true, "db0934c3eb792076b5e129d46f6d31759e78a2f77781897fd17e4d2a2536e97a"), looks := true }, kinds := [], alts := [], laidByText := true, laidKinds := [.data, .pinned], laidTests := true, laidLooks := .later }
def BitsTurnedUptoCardSaid : Prop := Claim7.holds Tryd.pinned (.plain (OpenSpec.upto bitsTurnedSpec)) bitsTurnedUptoCard

/-- THE SECOND FORM's CARD OF 'omnibuslaw.BitsBack'. -/
def bitsBackUptoCard : Claim7 := { stood := { row := bitsBackUptoRow, standIns := [], harness := (true, "db0934c3eb792076b5e129d46f6d31759e78a2f77781897fd17e4d2a2536e97a"), looks := true }, kinds := [], alts := [], laidByText := true, laidKinds := [.data, .pinned], laidTests := true, laidLooks := .later }
def BitsBackUptoCardSaid : Prop := Claim7.holds Tryd.pinned (.plain (OpenSpec.upto bitsBackSpec)) bitsBackUptoCard
end Rows
end Go.Proofs.YtcoemhndpmdccaaDoor
