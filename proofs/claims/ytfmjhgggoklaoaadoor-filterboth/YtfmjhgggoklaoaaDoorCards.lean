/-
  DERIVED. GIVEN WITH THE SEED: THE CARDS: each row of YtfmjhgggoklaoaaDoorRows.lean that lists a variable, with what it lists TIED to the program's text (the seventh form; the later family's looks); each row that meets fmt, with fmt's text TOLD by the authors' own Lean function (tested against real Go, not proved from fmt's source: count such statements apart). THE CARD IS WHAT COUNTS. Prove the row's statement (the work); the ties are given (YtfmjhgggoklaoaaDoorTie.lean); close each card by the builder's one call (the guide's Derived/Test/ToyasCard.lean, 'card_holds'). Laid BY PROGRAM, IN A SANDBOX (cutbox-door.mjs). By AI agents, Wed Nov 11 2026. No macro, syntax, notation, axiom, sorry.
-/
import Derived.Test.YtfmjhgggoklaoaaDoorRows
import GoSem.ClaimSeven
namespace Go.Proofs.YtfmjhgggoklaoaaDoor
namespace Rows

/-- THE TIED CARD OF 'omnibuslaw.FilterIn'. -/
def filterInCard : Claim7 := { stood := { row := filterInRow, standIns := [], harness := (true, "02b33e06de717ac4596dfd4c54337deb8d2af17883d3c3b6f83e64de0069dac0"), looks := false }, kinds := [], alts := [], laidByText := true, laidKinds := [.data, .data], laidTests := true, laidLooks := .later }
def FilterInCardSaid : Prop := Claim7.holds Tryd.pinned (.plain (OpenSpec.ofChange filterInSpec)) filterInCard

/-- THE TIED CARD OF 'omnibuslaw.FilterLeast'. -/
def filterLeastCard : Claim7 := { stood := { row := filterLeastRow, standIns := [], harness := (true, "02b33e06de717ac4596dfd4c54337deb8d2af17883d3c3b6f83e64de0069dac0"), looks := false }, kinds := [], alts := [], laidByText := true, laidKinds := [.data], laidTests := true, laidLooks := .later }
def FilterLeastCardSaid : Prop := Claim7.holds Tryd.pinned (.plain (OpenSpec.ofChange filterLeastSpec)) filterLeastCard

/-- THE TIED CARD OF 'omnibuslaw.FilterCount'. -/
def filterCountCard : Claim7 := { stood := { row := filterCountRow, standIns := [], harness := (true, "02b33e06de717ac4596dfd4c54337deb8d2af17883d3c3b6f83e64de0069dac0"), looks := false }, kinds := [], alts := [], laidByText := true, laidKinds := [.data], laidTests := true, laidLooks := .later }
def FilterCountCardSaid : Prop := Claim7.holds Tryd.pinned (.plain (OpenSpec.ofChange filterCountSpec)) filterCountCard

/-- THE TIED CARD OF 'omnibuslaw.FilterRanges'. -/
def filterRangesCard : Claim7 := { stood := { row := filterRangesRow, standIns := [], harness := (true, "02b33e06de717ac4596dfd4c54337deb8d2af17883d3c3b6f83e64de0069dac0"), looks := false }, kinds := [], alts := [], laidByText := true, laidKinds := [.data], laidTests := true, laidLooks := .later }
def FilterRangesCardSaid : Prop := Claim7.holds Tryd.pinned (.plain (OpenSpec.ofChange filterRangesSpec)) filterRangesCard

/-- THE TIED CARD OF 'omnibuslaw.FilterSame'. -/
def filterSameCard : Claim7 := { stood := { row := filterSameRow, standIns := [], harness := (true, "02b33e06de717ac4596dfd4c54337deb8d2af17883d3c3b6f83e64de0069dac0"), looks := false }, kinds := [], alts := [], laidByText := true, laidKinds := [.data, .data], laidTests := true, laidLooks := .later }
def FilterSameCardSaid : Prop := Claim7.holds Tryd.pinned (.plain (OpenSpec.ofChange filterSameSpec)) filterSameCard

/-- THE TIED CARD OF 'omnibuslaw.FilterBoth'. -/
def filterBothCard : Claim7 := { stood := { row := filterBothRow, standIns := [], harness := (true, "02b33e06de717ac4596dfd4c54337deb8d2af17883d3c3b6f83e64de0069dac0"), looks := false }, kinds := [], alts := [], laidByText := true, laidKinds := [.data, .data], laidTests := true, laidLooks := .later }
def FilterBothCardSaid : Prop := Claim7.holds Tryd.pinned (.plain (OpenSpec.ofChange filterBothSpec)) filterBothCard

/-- THE SECOND FORM's CARD OF 'omnibuslaw.FilterIn'. -/
def filterInUptoCard : Claim7 := { stood := { row := filterInUptoRow, standIns := [], harness := (true, "02b33e06de717ac4596dfd4c54337deb8d2af17883d3c3b6f83e64de0069dac0"), looks := false }, kinds := [], alts := [], laidByText := true, laidKinds := [.data, .data], laidTests := true, laidLooks := .later }
def FilterInUptoCardSaid : Prop := Claim7.holds Tryd.pinned (.plain (OpenSpec.upto filterInSpec)) filterInUptoCard

/-- THE SECOND FORM's CARD OF 'omnibuslaw.FilterLeast'. -/
def filterLeastUptoCard : Claim7 := { stood := { row := filterLeastUptoRow, standIns := [], harness := (true, "02b33e06de717ac4596dfd4c54337deb8d2af17883d3c3b6f83e64de0069dac0"), looks := false }, kinds := [], alts := [], laidByText := true, laidKinds := [.data], laidTests := true, laidLooks := .later }
def FilterLeastUptoCardSaid : Prop := Claim7.holds Tryd.pinned (.plain (OpenSpec.upto filterLeastSpec)) filterLeastUptoCard

/-- THE SECOND FORM's CARD OF 'omnibuslaw.FilterCount'. -/
def filterCountUptoCard : Claim7 := { stood := { row := filterCountUptoRow, standIns := [], harness := (true, "02b33e06de717ac4596dfd4c54337deb8d2af17883d3c3b6f83e64de0069dac0"), looks := false }, kinds := [], alts := [], laidByText := true, laidKinds := [.data], laidTests := true, laidLooks := .later }
def FilterCountUptoCardSaid : Prop := Claim7.holds Tryd.pinned (.plain (OpenSpec.upto filterCountSpec)) filterCountUptoCard

/-- THE SECOND FORM's CARD OF 'omnibuslaw.FilterRanges'. -/
def filterRangesUptoCard : Claim7 := { stood := { row := filterRangesUptoRow, standIns := [], harness := (true, "02b33e06de717ac4596dfd4c54337deb8d2af17883d3c3b6f83e64de0069dac0"), looks := false }, kinds := [], alts := [], laidByText := true, laidKinds := [.data], laidTests := true, laidLooks := .later }
def FilterRangesUptoCardSaid : Prop := Claim7.holds Tryd.pinned (.plain (OpenSpec.upto filterRangesSpec)) filterRangesUptoCard

/-- THE SECOND FORM's CARD OF 'omnibuslaw.FilterSame'. -/
def filterSameUptoCard : Claim7 := { stood := { row := filterSameUptoRow, standIns := [], harness := (true, "02b33e06de717ac4596dfd4c54337deb8d2af17883d3c3b6f83e64de0069dac0"), looks := false }, kinds := [], alts := [], laidByText := true, laidKinds := [.data, .data], laidTests := true, laidLooks := .later }
def FilterSameUptoCardSaid : Prop := Claim7.holds Tryd.pinned (.plain (OpenSpec.upto filterSameSpec)) filterSameUptoCard

/-- THE SECOND FORM's CARD OF 'omnibuslaw.FilterBoth'. -/
def filterBothUptoCard : Claim7 := { stood := { row := filterBothUptoRow, standIns := [], harness := (true, "02b33e06de717ac4596dfd4c54337deb8d2af17883d3c3b6f83e64de0069dac0"), looks := false }, kinds := [], alts := [], laidByText := true, laidKinds := [.data, .data], laidTests := true, laidLooks := .later }
def FilterBothUptoCardSaid : Prop := Claim7.holds Tryd.pinned (.plain (OpenSpec.upto filterBothSpec)) filterBothUptoCard
end Rows
end Go.Proofs.YtfmjhgggoklaoaaDoor
