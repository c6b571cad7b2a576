/-
  NARROWER THAN 'FOR EVERY INPUT', by the rows' own cells (each row's printed sentence says how): FilterIn: laid · FilterLeast: laid · FilterCount: laid · FilterRanges: laid · FilterSame: laid · FilterBoth: laid.
  DERIVED. THE GIVEN ROWS OF THIS SEAT. 6 by the template 'for every input the law returns true; each argument reads behind the call as it read before'; 0 by the template 'total and deterministic' (their statements: YtfmjhgggoklaoaaDoorTotals.lean).
  GIVEN WITH THE SEED: the statements are not yours to turn. If you find one false, say at which input.
  Laid BY PROGRAM, IN A SANDBOX (cutbox-rows.mjs): the forced cells as the released guide's own fill.sh prints them over the translation b1bdf8855c262f5c… (all of the seat's roots in one cut). By AI agents, Wed Nov 11 2026. No macro, syntax, notation, axiom, sorry.
-/
import Derived.Test.YtfmjhgggoklaoaaDoorChecked
import GoSem.Claim
import GoSem.ClaimJoined
import GoSem.ClaimMapViews
import Derived.JoinedTies
import Derived.KernelRfl
namespace Go.Proofs.YtfmjhgggoklaoaaDoor
/- THE CELL 'sum', in the pinned program and in every row, IS THE sha256 OF THE DUMP (.gsa) THAT YtfmjhgggoklaoaaDoorProg.lean LOADS. Nothing in Lean hashes anything: it is a label: what it is worth is what the hold of that sum in a sandbox is worth. -/
noncomputable def Tryd.pinned : Pinned := { name := "ytfmjhgggoklaoaadoor", sum := "b1bdf8855c262f5cf371e448f27508e820ea448a308e5ef42321f52aab08d3bb", checked := Tryd.checked }
namespace Rows
def none {H : Type} : Left H := { results := [], args := [] }

/- WHAT THE LISTED PACKAGE-LEVEL VARIABLES READ AS WHEN THE CALL BEGINS. Each datum BY PROGRAM (the guide's laid-datum.mjs) off the statement by which the dump's own 'gosem.cut.vars' lays the variable. In a bare row this is a premise. The card (YtfmjhgggoklaoaaDoorCards.lean) ties it to the program's text. -/
def laid_omnibus_frame_sizes {H : Type} : DataW H := .agg [.lit (.int .i64 0), .lit (.int .i64 1), .lit (.int .i64 2), .lit (.int .i64 3), .lit (.int .i64 4), .lit (.int .i64 5), .lit (.int .i64 6), .lit (.int .i64 7), .lit (.int .i64 8), .lit (.int .i64 12), .lit (.int .i64 16), .lit (.int .i64 20), .lit (.int .i64 24), .lit (.int .i64 32), .lit (.int .i64 48), .lit (.int .i64 64)]
def laid_omnibus_filter_lasts {H : Type} : DataW H := .agg [.lit (.int .i64 2047), .lit (.int .i64 536870911)]

/-- 'omnibuslaw.FilterIn': WHATEVER THE INPUT: true; the input reads as it did. -/
def filterInSpec : ChangeSpec := { name := "filterIn", fn := fun _ => fun
  | [d1, d2] => { results := [.lit (.bool true)], args := [d1, d2] }
  | _ => none }
def filterInRow : OpenClaim := { program := "ytfmjhgggoklaoaadoor", sum := "b1bdf8855c262f5cf371e448f27508e820ea448a308e5ef42321f52aab08d3bb", func := "omnibus/omnibuslaw.FilterIn", spec := "filterIn", unfollowed := true, recurses := true, named := ["omnibus/filter.lasts", "omnibus/frame.sizes"], apart := false, laid := [("omnibus/frame.sizes", laid_omnibus_frame_sizes), ("omnibus/filter.lasts", laid_omnibus_filter_lasts)] }
def FilterInSaid : Prop := filterInRow.holds Tryd.pinned (OpenSpec.ofChange filterInSpec)

/-- ITS FALSE NEIGHBOUR: 'it returns false'. Refute it at one input. -/
def filterInWrong : ChangeSpec := { name := "filterIn", fn := fun _ => fun
  | [d1, d2] => { results := [.lit (.bool false)], args := [d1, d2] }
  | _ => none }
def FilterInWrongFalsely : Prop := filterInRow.holds Tryd.pinned (OpenSpec.ofChange filterInWrong)

/-- 'omnibuslaw.FilterLeast': WHATEVER THE INPUT: true; the input reads as it did. -/
def filterLeastSpec : ChangeSpec := { name := "filterLeast", fn := fun _ => fun
  | [d] => { results := [.lit (.bool true)], args := [d] }
  | _ => none }
def filterLeastRow : OpenClaim := { program := "ytfmjhgggoklaoaadoor", sum := "b1bdf8855c262f5cf371e448f27508e820ea448a308e5ef42321f52aab08d3bb", func := "omnibus/omnibuslaw.FilterLeast", spec := "filterLeast", unfollowed := true, recurses := true, named := ["omnibus/filter.lasts"], apart := false, laid := [("omnibus/filter.lasts", laid_omnibus_filter_lasts)] }
def FilterLeastSaid : Prop := filterLeastRow.holds Tryd.pinned (OpenSpec.ofChange filterLeastSpec)

/-- ITS FALSE NEIGHBOUR: 'it returns false'. Refute it at one input. -/
def filterLeastWrong : ChangeSpec := { name := "filterLeast", fn := fun _ => fun
  | [d] => { results := [.lit (.bool false)], args := [d] }
  | _ => none }
def FilterLeastWrongFalsely : Prop := filterLeastRow.holds Tryd.pinned (OpenSpec.ofChange filterLeastWrong)

/-- 'omnibuslaw.FilterCount': WHATEVER THE INPUT: true; the input reads as it did. -/
def filterCountSpec : ChangeSpec := { name := "filterCount", fn := fun _ => fun
  | [d] => { results := [.lit (.bool true)], args := [d] }
  | _ => none }
def filterCountRow : OpenClaim := { program := "ytfmjhgggoklaoaadoor", sum := "b1bdf8855c262f5cf371e448f27508e820ea448a308e5ef42321f52aab08d3bb", func := "omnibus/omnibuslaw.FilterCount", spec := "filterCount", unfollowed := true, recurses := true, named := ["omnibus/filter.lasts"], apart := false, laid := [("omnibus/filter.lasts", laid_omnibus_filter_lasts)] }
def FilterCountSaid : Prop := filterCountRow.holds Tryd.pinned (OpenSpec.ofChange filterCountSpec)

/-- ITS FALSE NEIGHBOUR: 'it returns false'. Refute it at one input. -/
def filterCountWrong : ChangeSpec := { name := "filterCount", fn := fun _ => fun
  | [d] => { results := [.lit (.bool false)], args := [d] }
  | _ => none }
def FilterCountWrongFalsely : Prop := filterCountRow.holds Tryd.pinned (OpenSpec.ofChange filterCountWrong)

/-- 'omnibuslaw.FilterRanges': WHATEVER THE INPUT: true; the input reads as it did. -/
def filterRangesSpec : ChangeSpec := { name := "filterRanges", fn := fun _ => fun
  | [d1, d2, d3] => { results := [.lit (.bool true)], args := [d1, d2, d3] }
  | _ => none }
def filterRangesRow : OpenClaim := { program := "ytfmjhgggoklaoaadoor", sum := "b1bdf8855c262f5cf371e448f27508e820ea448a308e5ef42321f52aab08d3bb", func := "omnibus/omnibuslaw.FilterRanges", spec := "filterRanges", unfollowed := true, recurses := true, named := ["omnibus/filter.lasts"], apart := false, laid := [("omnibus/filter.lasts", laid_omnibus_filter_lasts)] }
def FilterRangesSaid : Prop := filterRangesRow.holds Tryd.pinned (OpenSpec.ofChange filterRangesSpec)

/-- ITS FALSE NEIGHBOUR: 'it returns false'. Refute it at one input. -/
def filterRangesWrong : ChangeSpec := { name := "filterRanges", fn := fun _ => fun
  | [d1, d2, d3] => { results := [.lit (.bool false)], args := [d1, d2, d3] }
  | _ => none }
def FilterRangesWrongFalsely : Prop := filterRangesRow.holds Tryd.pinned (OpenSpec.ofChange filterRangesWrong)

/-- 'omnibuslaw.FilterSame': WHATEVER THE INPUT: true; the input reads as it did. -/
def filterSameSpec : ChangeSpec := { name := "filterSame", fn := fun _ => fun
  | [d1, d2, d3, d4] => { results := [.lit (.bool true)], args := [d1, d2, d3, d4] }
  | _ => none }
def filterSameRow : OpenClaim := { program := "ytfmjhgggoklaoaadoor", sum := "b1bdf8855c262f5cf371e448f27508e820ea448a308e5ef42321f52aab08d3bb", func := "omnibus/omnibuslaw.FilterSame", spec := "filterSame", unfollowed := true, recurses := true, named := ["omnibus/filter.lasts", "omnibus/frame.sizes"], apart := false, laid := [("omnibus/frame.sizes", laid_omnibus_frame_sizes), ("omnibus/filter.lasts", laid_omnibus_filter_lasts)] }
def FilterSameSaid : Prop := filterSameRow.holds Tryd.pinned (OpenSpec.ofChange filterSameSpec)

/-- ITS FALSE NEIGHBOUR: 'it returns false'. Refute it at one input. -/
def filterSameWrong : ChangeSpec := { name := "filterSame", fn := fun _ => fun
  | [d1, d2, d3, d4] => { results := [.lit (.bool false)], args := [d1, d2, d3, d4] }
  | _ => none }
def FilterSameWrongFalsely : Prop := filterSameRow.holds Tryd.pinned (OpenSpec.ofChange filterSameWrong)

/-- 'omnibuslaw.FilterBoth': WHATEVER THE INPUT: true; the input reads as it did. -/
def filterBothSpec : ChangeSpec := { name := "filterBoth", fn := fun _ => fun
  | [d1, d2, d3] => { results := [.lit (.bool true)], args := [d1, d2, d3] }
  | _ => none }
def filterBothRow : OpenClaim := { program := "ytfmjhgggoklaoaadoor", sum := "b1bdf8855c262f5cf371e448f27508e820ea448a308e5ef42321f52aab08d3bb", func := "omnibus/omnibuslaw.FilterBoth", spec := "filterBoth", unfollowed := true, recurses := true, named := ["omnibus/filter.lasts", "omnibus/frame.sizes"], apart := false, laid := [("omnibus/frame.sizes", laid_omnibus_frame_sizes), ("omnibus/filter.lasts", laid_omnibus_filter_lasts)] }
def FilterBothSaid : Prop := filterBothRow.holds Tryd.pinned (OpenSpec.ofChange filterBothSpec)

/-- ITS FALSE NEIGHBOUR: 'it returns false'. Refute it at one input. -/
def filterBothWrong : ChangeSpec := { name := "filterBoth", fn := fun _ => fun
  | [d1, d2, d3] => { results := [.lit (.bool false)], args := [d1, d2, d3] }
  | _ => none }
def FilterBothWrongFalsely : Prop := filterBothRow.holds Tryd.pinned (OpenSpec.ofChange filterBothWrong)

/- THE SECOND FORM. 'bulk': how many values and letters a reading holds, each counted each time it is reached (what is shared counts as often as it is met; a slice's spare places count too). A statement '..UptoSaid' is the law's where the arguments, and the package variables that the reading takes, are together of bulk at most 1048576: NARROWER than '..Said'. Prove '..Said' where nothing that the law and all that it calls make is longer than what came in: it says more and counts as full. Else prove '..UptoSaid'. A law counts once. -/
mutual
def uptoBulk {H : Type} : DataW H → Nat
  | .lit (.string bytes) => bytes.length + 1
  | .lit _ => 1
  | .nil => 1
  | .ptr d => uptoBulk d + 1
  | .slice elems spare => uptoBulkAll elems + uptoBulkAll spare + 1
  | .agg parts => uptoBulkAll parts + 1
  | .iface _ d => uptoBulk d + 1
  | .map entries => uptoBulkEntries entries + 1
  | .held _ => 1
def uptoBulkAll {H : Type} : List (DataW H) → Nat
  | [] => 0
  | d :: r => uptoBulk d + uptoBulkAll r
def uptoBulkEntries {H : Type} : List (Lit × DataW H) → Nat
  | [] => 0
  | x :: r => uptoBulkEntry x + uptoBulkEntries r
def uptoBulkEntry {H : Type} : Lit × DataW H → Nat
  | (.string bytes, d) => bytes.length + uptoBulk d + 1
  | (_, d) => uptoBulk d + 1
 end
def uptoSmall : (H : Type) → List (DataW H) → Bool := fun _ ds => decide (uptoBulkAll ds ≤ 1048576)
def OpenSpec.upto (s : _root_.Go.ChangeSpec) : _root_.Go.OpenSpec := { _root_.Go.OpenSpec.ofChange s with cond := some uptoSmall }

/-- 'omnibuslaw.FilterIn', WHERE WHAT IT READS IS OF BULK AT MOST 1048576: true; the input reads as it did. -/
def filterInUptoRow : OpenClaim := { program := "ytfmjhgggoklaoaadoor", sum := "b1bdf8855c262f5cf371e448f27508e820ea448a308e5ef42321f52aab08d3bb", func := "omnibus/omnibuslaw.FilterIn", spec := "filterIn", unfollowed := true, recurses := true, named := ["omnibus/filter.lasts", "omnibus/frame.sizes"], apart := false, laid := [("omnibus/frame.sizes", laid_omnibus_frame_sizes), ("omnibus/filter.lasts", laid_omnibus_filter_lasts)], narrowed := true }
def FilterInUptoSaid : Prop := filterInUptoRow.holds Tryd.pinned (OpenSpec.upto filterInSpec)

/-- 'omnibuslaw.FilterLeast', WHERE WHAT IT READS IS OF BULK AT MOST 1048576: true; the input reads as it did. -/
def filterLeastUptoRow : OpenClaim := { program := "ytfmjhgggoklaoaadoor", sum := "b1bdf8855c262f5cf371e448f27508e820ea448a308e5ef42321f52aab08d3bb", func := "omnibus/omnibuslaw.FilterLeast", spec := "filterLeast", unfollowed := true, recurses := true, named := ["omnibus/filter.lasts"], apart := false, laid := [("omnibus/filter.lasts", laid_omnibus_filter_lasts)], narrowed := true }
def FilterLeastUptoSaid : Prop := filterLeastUptoRow.holds Tryd.pinned (OpenSpec.upto filterLeastSpec)

/-- 'omnibuslaw.FilterCount', WHERE WHAT IT READS IS OF BULK AT MOST 1048576: true; the input reads as it did. -/
def filterCountUptoRow : OpenClaim := { program := "ytfmjhgggoklaoaadoor", sum := "b1bdf8855c262f5cf371e448f27508e820ea448a308e5ef42321f52aab08d3bb", func := "omnibus/omnibuslaw.FilterCount", spec := "filterCount", unfollowed := true, recurses := true, named := ["omnibus/filter.lasts"], apart := false, laid := [("omnibus/filter.lasts", laid_omnibus_filter_lasts)], narrowed := true }
def FilterCountUptoSaid : Prop := filterCountUptoRow.holds Tryd.pinned (OpenSpec.upto filterCountSpec)

/-- 'omnibuslaw.FilterRanges', WHERE WHAT IT READS IS OF BULK AT MOST 1048576: true; the input reads as it did. -/
def filterRangesUptoRow : OpenClaim := { program := "ytfmjhgggoklaoaadoor", sum := "b1bdf8855c262f5cf371e448f27508e820ea448a308e5ef42321f52aab08d3bb", func := "omnibus/omnibuslaw.FilterRanges", spec := "filterRanges", unfollowed := true, recurses := true, named := ["omnibus/filter.lasts"], apart := false, laid := [("omnibus/filter.lasts", laid_omnibus_filter_lasts)], narrowed := true }
def FilterRangesUptoSaid : Prop := filterRangesUptoRow.holds Tryd.pinned (OpenSpec.upto filterRangesSpec)

/-- 'omnibuslaw.FilterSame', WHERE WHAT IT READS IS OF BULK AT MOST 1048576: true; the input reads as it did. -/
def filterSameUptoRow : OpenClaim := { program := "ytfmjhgggoklaoaadoor", sum := "b1bdf8855c262f5cf371e448f27508e820ea448a308e5ef42321f52aab08d3bb", func := "omnibus/omnibuslaw.FilterSame", spec := "filterSame", unfollowed := true, recurses := true, named := ["omnibus/filter.lasts", "omnibus/frame.sizes"], apart := false, laid := [("omnibus/frame.sizes", laid_omnibus_frame_sizes), ("omnibus/filter.lasts", laid_omnibus_filter_lasts)], narrowed := true }
def FilterSameUptoSaid : Prop := filterSameUptoRow.holds Tryd.pinned (OpenSpec.upto filterSameSpec)

/-- 'omnibuslaw.FilterBoth', WHERE WHAT IT READS IS OF BULK AT MOST 1048576: true; the input reads as it did. -/
def filterBothUptoRow : OpenClaim := { program := "ytfmjhgggoklaoaadoor", sum := "b1bdf8855c262f5cf371e448f27508e820ea448a308e5ef42321f52aab08d3bb", func := "omnibus/omnibuslaw.FilterBoth", spec := "filterBoth", unfollowed := true, recurses := true, named := ["omnibus/filter.lasts", "omnibus/frame.sizes"], apart := false, laid := [("omnibus/frame.sizes", laid_omnibus_frame_sizes), ("omnibus/filter.lasts", laid_omnibus_filter_lasts)], narrowed := true }
def FilterBothUptoSaid : Prop := filterBothUptoRow.holds Tryd.pinned (OpenSpec.upto filterBothSpec)

end Rows
end Go.Proofs.YtfmjhgggoklaoaaDoor
