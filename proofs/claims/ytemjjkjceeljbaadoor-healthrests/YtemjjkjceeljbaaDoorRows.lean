/-
  NARROWER THAN 'FOR EVERY INPUT', by the rows' own cells (each row's printed sentence says how): HealthStep: laid · HealthTill: laid · HealthRests: laid.
  DERIVED. THE GIVEN ROWS OF THIS SEAT. 3 by the template 'for every input the law returns true; each argument reads behind the call as it read before'; 0 by the template 'total and deterministic' (their statements: YtemjjkjceeljbaaDoorTotals.lean).
  GIVEN WITH THE SEED: the statements are not yours to turn. If you find one false, say at which input.
  Laid BY PROGRAM, IN A SANDBOX (cutbox-rows.mjs): the forced cells as the released guide's own fill.sh prints them over the translation e45de45631792a42… (all of the seat's roots in one cut). By AI agents, Wed Nov 11 2026. No macro, syntax, notation, axiom, sorry.
-/
import Derived.Test.YtemjjkjceeljbaaDoorChecked
import GoSem.Claim
import GoSem.ClaimJoined
import GoSem.ClaimMapViews
import Derived.JoinedTies
import Derived.KernelRfl
namespace Go.Proofs.YtemjjkjceeljbaaDoor
/- THE CELL 'sum', in the pinned program and in every row, IS THE sha256 OF THE DUMP (.gsa) THAT YtemjjkjceeljbaaDoorProg.lean LOADS. Nothing in Lean hashes anything: it is a label: what it is worth is what the hold of that sum in a sandbox is worth. -/
noncomputable def Tryd.pinned : Pinned := { name := "ytemjjkjceeljbaadoor", sum := "e45de45631792a4219649603c6dd935aa3c3ce0d31d16088007328fc3abee723", checked := Tryd.checked }
namespace Rows
def none {H : Type} : Left H := { results := [], args := [] }

/- WHAT THE LISTED PACKAGE-LEVEL VARIABLES READ AS WHEN THE CALL BEGINS. Each datum BY PROGRAM (the guide's laid-datum.mjs) off the statement by which the dump's own 'gosem.cut.vars' lays the variable. In a bare row this is a premise. The card (YtemjjkjceeljbaaDoorCards.lean) ties it to the program's text. -/
def laid_omnibus_health_changes {H : Type} : DataW H := .agg [.agg [.lit (.int .i64 0), .lit (.int .i64 0)], .agg [.lit (.int .i64 (-1)), .lit (.int .i64 0)], .agg [.lit (.int .i64 0), .lit (.int .i64 (-1))], .agg [.lit (.int .i64 8), .lit (.int .i64 0)], .agg [.lit (.int .i64 0), .lit (.int .i64 1)], .agg [.lit (.int .i64 0), .lit (.int .i64 8)], .agg [.lit (.int .i64 0), .lit (.int .i64 0)]]

/-- 'omnibuslaw.HealthStep': WHATEVER THE INPUT: true; the input reads as it did. -/
def healthStepSpec : ChangeSpec := { name := "healthStep", fn := fun _ => fun
  | [d1, d2] => { results := [.lit (.bool true)], args := [d1, d2] }
  | _ => none }
def healthStepRow : OpenClaim := { program := "ytemjjkjceeljbaadoor", sum := "e45de45631792a4219649603c6dd935aa3c3ce0d31d16088007328fc3abee723", func := "omnibus/omnibuslaw.HealthStep", spec := "healthStep", unfollowed := true, recurses := true, named := ["omnibus/health.changes"], apart := false, laid := [("omnibus/health.changes", laid_omnibus_health_changes)] }
def HealthStepSaid : Prop := healthStepRow.holds Tryd.pinned (OpenSpec.ofChange healthStepSpec)

/-- ITS FALSE NEIGHBOUR: 'it returns false'. Refute it at one input. -/
def healthStepWrong : ChangeSpec := { name := "healthStep", fn := fun _ => fun
  | [d1, d2] => { results := [.lit (.bool false)], args := [d1, d2] }
  | _ => none }
def HealthStepWrongFalsely : Prop := healthStepRow.holds Tryd.pinned (OpenSpec.ofChange healthStepWrong)

/-- 'omnibuslaw.HealthTill': WHATEVER THE INPUT: true; the input reads as it did. -/
def healthTillSpec : ChangeSpec := { name := "healthTill", fn := fun _ => fun
  | [d] => { results := [.lit (.bool true)], args := [d] }
  | _ => none }
def healthTillRow : OpenClaim := { program := "ytemjjkjceeljbaadoor", sum := "e45de45631792a4219649603c6dd935aa3c3ce0d31d16088007328fc3abee723", func := "omnibus/omnibuslaw.HealthTill", spec := "healthTill", unfollowed := true, recurses := true, named := ["omnibus/health.changes"], apart := false, laid := [("omnibus/health.changes", laid_omnibus_health_changes)] }
def HealthTillSaid : Prop := healthTillRow.holds Tryd.pinned (OpenSpec.ofChange healthTillSpec)

/-- ITS FALSE NEIGHBOUR: 'it returns false'. Refute it at one input. -/
def healthTillWrong : ChangeSpec := { name := "healthTill", fn := fun _ => fun
  | [d] => { results := [.lit (.bool false)], args := [d] }
  | _ => none }
def HealthTillWrongFalsely : Prop := healthTillRow.holds Tryd.pinned (OpenSpec.ofChange healthTillWrong)

/-- 'omnibuslaw.HealthRests': WHATEVER THE INPUT: true; the input reads as it did. -/
def healthRestsSpec : ChangeSpec := { name := "healthRests", fn := fun _ => fun
  | [d1, d2] => { results := [.lit (.bool true)], args := [d1, d2] }
  | _ => none }
def healthRestsRow : OpenClaim := { program := "ytemjjkjceeljbaadoor", sum := "e45de45631792a4219649603c6dd935aa3c3ce0d31d16088007328fc3abee723", func := "omnibus/omnibuslaw.HealthRests", spec := "healthRests", named := ["omnibus/health.changes"], apart := false, laid := [("omnibus/health.changes", laid_omnibus_health_changes)] }
def HealthRestsSaid : Prop := healthRestsRow.holds Tryd.pinned (OpenSpec.ofChange healthRestsSpec)

/-- ITS FALSE NEIGHBOUR: 'it returns false'. Refute it at one input. -/
def healthRestsWrong : ChangeSpec := { name := "healthRests", fn := fun _ => fun
  | [d1, d2] => { results := [.lit (.bool false)], args := [d1, d2] }
  | _ => none }
def HealthRestsWrongFalsely : Prop := healthRestsRow.holds Tryd.pinned (OpenSpec.ofChange healthRestsWrong)

/- THE SECOND FORM. 'bulk': how many values and letters a reading holds, each counted each time it is reached (what is shared counts as often as it is met; a slice's spare places count too). A statement '..UptoSaid' is the law's where the arguments, and the package variables that the reading takes, are together of bulk at most 1048576: NARROWER than '..Said'. Prove '..Said' where nothing that the law and all that it calls make is longer than what came in: it says more and counts as full. Else prove '..UptoSaid'. A law counts once. -/
mutual
def uptoBulk {H : Type} : DataW H → Nat
  | .lit (.string bytes) => bytes.length + 1
  | .lit _ => 1
  | .nil => 1
  | .ptr d => uptoBulk d + 1
  | .slice elems spare => uptoBulkAll elems + uptoBulkAll spare + 1
  | .agg parts => uptoBulkAll parts + 1
  | .iface _ d => uptoBulk d + 1
  | .map entries => uptoBulkEntries entries + 1
  | .held _ => 1
def uptoBulkAll {H : Type} : List (DataW H) → Nat
  | [] => 0
  | d :: r => uptoBulk d + uptoBulkAll r
def uptoBulkEntries {H : Type} : List (Lit × DataW H) → Nat
  | [] => 0
  | x :: r => uptoBulkEntry x + uptoBulkEntries r
def uptoBulkEntry {H : Type} : Lit × DataW H → Nat
  | (.string bytes, d) => bytes.length + uptoBulk d + 1
  | (_, d) => uptoBulk d + 1
 end
def uptoSmall : (H : Type) → List (DataW H) → Bool := fun _ ds => decide (uptoBulkAll ds ≤ 1048576)
def OpenSpec.upto (s : _root_.Go.ChangeSpec) : _root_.Go.OpenSpec := { _root_.Go.OpenSpec.ofChange s with cond := some uptoSmall }

/-- 'omnibuslaw.HealthStep', WHERE WHAT IT READS IS OF BULK AT MOST 1048576: true; the input reads as it did. -/
def healthStepUptoRow : OpenClaim := { program := "ytemjjkjceeljbaadoor", sum := "e45de45631792a4219649603c6dd935aa3c3ce0d31d16088007328fc3abee723", func := "omnibus/omnibuslaw.HealthStep", spec := "healthStep", unfollowed := true, recurses := true, named := ["omnibus/health.changes"], apart := false, laid := [("omnibus/health.changes", laid_omnibus_health_changes)], narrowed := true }
def HealthStepUptoSaid : Prop := healthStepUptoRow.holds Tryd.pinned (OpenSpec.upto healthStepSpec)

/-- 'omnibuslaw.HealthTill', WHERE WHAT IT READS IS OF BULK AT MOST 1048576: true; the input reads as it did. -/
def healthTillUptoRow : OpenClaim := { program := "ytemjjkjceeljbaadoor", sum := "e45de45631792a4219649603c6dd935aa3c3ce0d31d16088007328fc3abee723", func := "omnibus/omnibuslaw.HealthTill", spec := "healthTill", unfollowed := true, recurses := true, named := ["omnibus/health.changes"], apart := false, laid := [("omnibus/health.changes", laid_omnibus_health_changes)], narrowed := true }
def HealthTillUptoSaid : Prop := healthTillUptoRow.holds Tryd.pinned (OpenSpec.upto healthTillSpec)

/-- 'omnibuslaw.HealthRests', WHERE WHAT IT READS IS OF BULK AT MOST 1048576: true; the input reads as it did. -/
def healthRestsUptoRow : OpenClaim := { program := "ytemjjkjceeljbaadoor", sum := "e45de45631792a4219649603c6dd935aa3c3ce0d31d16088007328fc3abee723", func := "omnibus/omnibuslaw.HealthRests", spec := "healthRests", named := ["omnibus/health.changes"], apart := false, laid := [("omnibus/health.changes", laid_omnibus_health_changes)], narrowed := true }
def HealthRestsUptoSaid : Prop := healthRestsUptoRow.holds Tryd.pinned (OpenSpec.upto healthRestsSpec)

end Rows
end Go.Proofs.YtemjjkjceeljbaaDoor
