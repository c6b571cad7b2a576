/-
  NARROWER THAN 'FOR EVERY INPUT', by the rows' own cells (each row's printed sentence says how): RouteStep: laid · RouteSpread: laid · RouteGoes: laid · RouteMore: laid.
  DERIVED. THE GIVEN ROWS OF THIS SEAT. 4 by the template 'for every input the law returns true; each argument reads behind the call as it read before'; 0 by the template 'total and deterministic' (their statements: YtapjiopnjfldhaaDoorTotals.lean).
  GIVEN WITH THE SEED: the statements are not yours to turn. If you find one false, say at which input.
  Laid BY PROGRAM, IN A SANDBOX (cutbox-rows.mjs): the forced cells as the released guide's own fill.sh prints them over the translation 8a6148df5f15ee6d… (all of the seat's roots in one cut). By AI agents, Wed Nov 11 2026. No macro, syntax, notation, axiom, sorry.
-/
import Derived.Test.YtapjiopnjfldhaaDoorChecked
import GoSem.Claim
import GoSem.ClaimJoined
import GoSem.ClaimMapViews
import Derived.JoinedTies
import Derived.KernelRfl
namespace Go.Proofs.YtapjiopnjfldhaaDoor
/- THE CELL 'sum', in the pinned program and in every row, IS THE sha256 OF THE DUMP (.gsa) THAT YtapjiopnjfldhaaDoorProg.lean LOADS. Nothing in Lean hashes anything: it is a label: what it is worth is what the hold of that sum in a sandbox is worth. -/
noncomputable def Tryd.pinned : Pinned := { name := "ytapjiopnjfldhaadoor", sum := "8a6148df5f15ee6dc1a734ed266775241309c933e7be5507c91898a45e9749dd", checked := Tryd.checked }
namespace Rows
def none {H : Type} : Left H := { results := [], args := [] }

/- WHAT THE LISTED PACKAGE-LEVEL VARIABLES READ AS WHEN THE CALL BEGINS. Each datum BY PROGRAM (the guide's laid-datum.mjs) off the statement by which the dump's own 'gosem.cut.vars' lays the variable. In a bare row this is a premise. The card (YtapjiopnjfldhaaDoorCards.lean) ties it to the program's text. -/
def laid_omnibus_frame_sizes {H : Type} : DataW H := .agg [.lit (.int .i64 0), .lit (.int .i64 1), .lit (.int .i64 2), .lit (.int .i64 3), .lit (.int .i64 4), .lit (.int .i64 5), .lit (.int .i64 6), .lit (.int .i64 7), .lit (.int .i64 8), .lit (.int .i64 12), .lit (.int .i64 16), .lit (.int .i64 20), .lit (.int .i64 24), .lit (.int .i64 32), .lit (.int .i64 48), .lit (.int .i64 64)]
def laid_omnibus_filter_lasts {H : Type} : DataW H := .agg [.lit (.int .i64 2047), .lit (.int .i64 536870911)]

/-- 'omnibuslaw.RouteStep': WHATEVER THE INPUT: true; the input reads as it did. -/
def routeStepSpec : ChangeSpec := { name := "routeStep", fn := fun _ => fun
  | [d1, d2, d3, d4] => { results := [.lit (.bool true)], args := [d1, d2, d3, d4] }
  | _ => none }
def routeStepRow : OpenClaim := { program := "ytapjiopnjfldhaadoor", sum := "8a6148df5f15ee6dc1a734ed266775241309c933e7be5507c91898a45e9749dd", func := "omnibus/omnibuslaw.RouteStep", spec := "routeStep", unfollowed := true, recurses := true, named := ["omnibus/filter.lasts", "omnibus/frame.sizes"], plainKeys := false, apart := false, laid := [("omnibus/frame.sizes", laid_omnibus_frame_sizes), ("omnibus/filter.lasts", laid_omnibus_filter_lasts)] }
def RouteStepSaid : Prop := routeStepRow.holds Tryd.pinned (OpenSpec.ofChange routeStepSpec)

/-- ITS FALSE NEIGHBOUR: 'it returns false'. Refute it at one input. -/
def routeStepWrong : ChangeSpec := { name := "routeStep", fn := fun _ => fun
  | [d1, d2, d3, d4] => { results := [.lit (.bool false)], args := [d1, d2, d3, d4] }
  | _ => none }
def RouteStepWrongFalsely : Prop := routeStepRow.holds Tryd.pinned (OpenSpec.ofChange routeStepWrong)

/-- 'omnibuslaw.RouteSpread': WHATEVER THE INPUT: true; the input reads as it did. -/
def routeSpreadSpec : ChangeSpec := { name := "routeSpread", fn := fun _ => fun
  | [d1, d2, d3] => { results := [.lit (.bool true)], args := [d1, d2, d3] }
  | _ => none }
def routeSpreadRow : OpenClaim := { program := "ytapjiopnjfldhaadoor", sum := "8a6148df5f15ee6dc1a734ed266775241309c933e7be5507c91898a45e9749dd", func := "omnibus/omnibuslaw.RouteSpread", spec := "routeSpread", unfollowed := true, recurses := true, named := ["omnibus/filter.lasts", "omnibus/frame.sizes"], plainKeys := false, apart := false, laid := [("omnibus/frame.sizes", laid_omnibus_frame_sizes), ("omnibus/filter.lasts", laid_omnibus_filter_lasts)] }
def RouteSpreadSaid : Prop := routeSpreadRow.holds Tryd.pinned (OpenSpec.ofChange routeSpreadSpec)

/-- ITS FALSE NEIGHBOUR: 'it returns false'. Refute it at one input. -/
def routeSpreadWrong : ChangeSpec := { name := "routeSpread", fn := fun _ => fun
  | [d1, d2, d3] => { results := [.lit (.bool false)], args := [d1, d2, d3] }
  | _ => none }
def RouteSpreadWrongFalsely : Prop := routeSpreadRow.holds Tryd.pinned (OpenSpec.ofChange routeSpreadWrong)

/-- 'omnibuslaw.RouteGoes': WHATEVER THE INPUT: true; the input reads as it did. -/
def routeGoesSpec : ChangeSpec := { name := "routeGoes", fn := fun _ => fun
  | [d1, d2, d3] => { results := [.lit (.bool true)], args := [d1, d2, d3] }
  | _ => none }
def routeGoesRow : OpenClaim := { program := "ytapjiopnjfldhaadoor", sum := "8a6148df5f15ee6dc1a734ed266775241309c933e7be5507c91898a45e9749dd", func := "omnibus/omnibuslaw.RouteGoes", spec := "routeGoes", unfollowed := true, recurses := true, named := ["omnibus/filter.lasts", "omnibus/frame.sizes"], plainKeys := false, apart := false, laid := [("omnibus/frame.sizes", laid_omnibus_frame_sizes), ("omnibus/filter.lasts", laid_omnibus_filter_lasts)] }
def RouteGoesSaid : Prop := routeGoesRow.holds Tryd.pinned (OpenSpec.ofChange routeGoesSpec)

/-- ITS FALSE NEIGHBOUR: 'it returns false'. Refute it at one input. -/
def routeGoesWrong : ChangeSpec := { name := "routeGoes", fn := fun _ => fun
  | [d1, d2, d3] => { results := [.lit (.bool false)], args := [d1, d2, d3] }
  | _ => none }
def RouteGoesWrongFalsely : Prop := routeGoesRow.holds Tryd.pinned (OpenSpec.ofChange routeGoesWrong)

/-- 'omnibuslaw.RouteMore': WHATEVER THE INPUT: true; the input reads as it did. -/
def routeMoreSpec : ChangeSpec := { name := "routeMore", fn := fun _ => fun
  | [d1, d2, d3, d4] => { results := [.lit (.bool true)], args := [d1, d2, d3, d4] }
  | _ => none }
def routeMoreRow : OpenClaim := { program := "ytapjiopnjfldhaadoor", sum := "8a6148df5f15ee6dc1a734ed266775241309c933e7be5507c91898a45e9749dd", func := "omnibus/omnibuslaw.RouteMore", spec := "routeMore", unfollowed := true, recurses := true, named := ["omnibus/filter.lasts", "omnibus/frame.sizes"], plainKeys := false, apart := false, laid := [("omnibus/frame.sizes", laid_omnibus_frame_sizes), ("omnibus/filter.lasts", laid_omnibus_filter_lasts)] }
def RouteMoreSaid : Prop := routeMoreRow.holds Tryd.pinned (OpenSpec.ofChange routeMoreSpec)

/-- ITS FALSE NEIGHBOUR: 'it returns false'. Refute it at one input. -/
def routeMoreWrong : ChangeSpec := { name := "routeMore", fn := fun _ => fun
  | [d1, d2, d3, d4] => { results := [.lit (.bool false)], args := [d1, d2, d3, d4] }
  | _ => none }
def RouteMoreWrongFalsely : Prop := routeMoreRow.holds Tryd.pinned (OpenSpec.ofChange routeMoreWrong)

/- THE SECOND FORM. 'bulk': how many values and letters a reading holds, each counted each time it is reached (what is shared counts as often as it is met; a slice's spare places count too). A statement '..UptoSaid' is the law's where the arguments, and the package variables that the reading takes, are together of bulk at most 1048576: NARROWER than '..Said'. Prove '..Said' where nothing that the law and all that it calls make is longer than what came in: it says more and counts as full. Else prove '..UptoSaid'. A law counts once. -/
mutual
def uptoBulk {H : Type} : DataW H → Nat
  | .lit (.string bytes) => bytes.length + 1
  | .lit _ => 1
  | .nil => 1
  | .ptr d => uptoBulk d + 1
  | .slice elems spare => uptoBulkAll elems + uptoBulkAll spare + 1
  | .agg parts => uptoBulkAll parts + 1
  | .iface _ d => uptoBulk d + 1
  | .map entries => uptoBulkEntries entries + 1
  | .held _ => 1
def uptoBulkAll {H : Type} : List (DataW H) → Nat
  | [] => 0
  | d :: r => uptoBulk d + uptoBulkAll r
def uptoBulkEntries {H : Type} : List (Lit × DataW H) → Nat
  | [] => 0
  | x :: r => uptoBulkEntry x + uptoBulkEntries r
def uptoBulkEntry {H : Type} : Lit × DataW H → Nat
  | (.string bytes, d) => bytes.length + uptoBulk d + 1
  | (_, d) => uptoBulk d + 1
 end
def uptoSmall : (H : Type) → List (DataW H) → Bool := fun _ ds => decide (uptoBulkAll ds ≤ 1048576)
def OpenSpec.upto (s : _root_.Go.ChangeSpec) : _root_.Go.OpenSpec := { _root_.Go.OpenSpec.ofChange s with cond := some uptoSmall }

/-- 'omnibuslaw.RouteStep', WHERE WHAT IT READS IS OF BULK AT MOST 1048576: true; the input reads as it did. -/
def routeStepUptoRow : OpenClaim := { program := "ytapjiopnjfldhaadoor", sum := "8a6148df5f15ee6dc1a734ed266775241309c933e7be5507c91898a45e9749dd", func := "omnibus/omnibuslaw.RouteStep", spec := "routeStep", unfollowed := true, recurses := true, named := ["omnibus/filter.lasts", "omnibus/frame.sizes"], plainKeys := false, apart := false, laid := [("omnibus/frame.sizes", laid_omnibus_frame_sizes), ("omnibus/filter.lasts", laid_omnibus_filter_lasts)], narrowed := true }
def RouteStepUptoSaid : Prop := routeStepUptoRow.holds Tryd.pinned (OpenSpec.upto routeStepSpec)

/-- 'omnibuslaw.RouteSpread', WHERE WHAT IT READS IS OF BULK AT MOST 1048576: true; the input reads as it did. -/
def routeSpreadUptoRow : OpenClaim := { program := "ytapjiopnjfldhaadoor", sum := "8a6148df5f15ee6dc1a734ed266775241309c933e7be5507c91898a45e9749dd", func := "omnibus/omnibuslaw.RouteSpread", spec := "routeSpread", unfollowed := true, recurses := true, named := ["omnibus/filter.lasts", "omnibus/frame.sizes"], plainKeys := false, apart := false, laid := [("omnibus/frame.sizes", laid_omnibus_frame_sizes), ("omnibus/filter.lasts", laid_omnibus_filter_lasts)], narrowed := true }
def RouteSpreadUptoSaid : Prop := routeSpreadUptoRow.holds Tryd.pinned (OpenSpec.upto routeSpreadSpec)

/-- 'omnibuslaw.RouteGoes', WHERE WHAT IT READS IS OF BULK AT MOST 1048576: true; the input reads as it did. -/
def routeGoesUptoRow : OpenClaim := { program := "ytapjiopnjfldhaadoor", sum := "8a6148df5f15ee6dc1a734ed266775241309c933e7be5507c91898a45e9749dd", func := "omnibus/omnibuslaw.RouteGoes", spec := "routeGoes", unfollowed := true, recurses := true, named := ["omnibus/filter.lasts", "omnibus/frame.sizes"], plainKeys := false, apart := false, laid := [("omnibus/frame.sizes", laid_omnibus_frame_sizes), ("omnibus/filter.lasts", laid_omnibus_filter_lasts)], narrowed := true }
def RouteGoesUptoSaid : Prop := routeGoesUptoRow.holds Tryd.pinned (OpenSpec.upto routeGoesSpec)

/-- 'omnibuslaw.RouteMore', WHERE WHAT IT READS IS OF BULK AT MOST 1048576: true; the input reads as it did. -/
def routeMoreUptoRow : OpenClaim := { program := "ytapjiopnjfldhaadoor", sum := "8a6148df5f15ee6dc1a734ed266775241309c933e7be5507c91898a45e9749dd", func := "omnibus/omnibuslaw.RouteMore", spec := "routeMore", unfollowed := true, recurses := true, named := ["omnibus/filter.lasts", "omnibus/frame.sizes"], plainKeys := false, apart := false, laid := [("omnibus/frame.sizes", laid_omnibus_frame_sizes), ("omnibus/filter.lasts", laid_omnibus_filter_lasts)], narrowed := true }
def RouteMoreUptoSaid : Prop := routeMoreUptoRow.holds Tryd.pinned (OpenSpec.upto routeMoreSpec)

end Rows
end Go.Proofs.YtapjiopnjfldhaaDoor
