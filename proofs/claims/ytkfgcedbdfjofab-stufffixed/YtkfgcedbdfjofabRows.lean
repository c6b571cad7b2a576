/-
  No cell of these rows narrows 'for every input' (looked for: loops, veiled, ifaces, maps, wideKeys, modest, calm, conditions, laid).
  DERIVED. THE GIVEN ROWS OF THIS SEAT. 3 by the template 'for every input the law returns true; each argument reads behind the call as it read before'; 0 by the template 'total and deterministic' (their statements: YtkfgcedbdfjofabTotals.lean).
  GIVEN WITH THE SEED: the statements are not yours to turn. If you find one false, say at which input.
  Laid BY PROGRAM, IN A SANDBOX (cutbox-rows.mjs): the forced cells as the released guide's own fill.sh prints them over the translation a55ae280440d1a4c… (all of the seat's roots in one cut). By AI agents, Wed Nov 11 2026. No macro, syntax, notation, axiom, sorry.
-/
import Derived.Test.YtkfgcedbdfjofabChecked
import GoSem.Claim
import GoSem.ClaimJoined
import GoSem.ClaimMapViews
import Derived.JoinedTies
import Derived.KernelRfl
namespace Go.Proofs.Ytkfgcedbdfjofab
/- THE CELL 'sum', in the pinned program and in every row, IS THE sha256 OF THE DUMP (.gsa) THAT YtkfgcedbdfjofabProg.lean LOADS. Nothing in Lean hashes anything: it is a label: what it is worth is what the hold of that sum in a sandbox is worth. -/
noncomputable def Try.pinned : Pinned := { name := "ytkfgcedbdfjofab", sum := "a55ae280440d1a4c797ab80387a71c4f4edf02fa35755ce2c48dd158a9c28e64", checked := Try.checked }
namespace Rows
def none {H : Type} : Left H := { results := [], args := [] }

/-- 'omnibuslaw.StuffTake': WHATEVER THE INPUT: true; the input reads as it did. -/
def stuffTakeSpec : ChangeSpec := { name := "stuffTake", fn := fun _ => fun
  | [d1, d2] => { results := [.lit (.bool true)], args := [d1, d2] }
  | _ => none }
def stuffTakeRow : OpenClaim := { program := "ytkfgcedbdfjofab", sum := "a55ae280440d1a4c797ab80387a71c4f4edf02fa35755ce2c48dd158a9c28e64", func := "omnibus/omnibuslaw.StuffTake", spec := "stuffTake", inPlace := ["internal/bytealg.CountString", "internal/bytealg.IndexByteString", "internal/bytealg.IndexString"], named := ["internal/bytealg.MaxLen"], apart := false }
def StuffTakeSaid : Prop := stuffTakeRow.holds Try.pinned (OpenSpec.ofChange stuffTakeSpec)

/-- ITS FALSE NEIGHBOUR: 'it returns false'. Refute it at one input. -/
def stuffTakeWrong : ChangeSpec := { name := "stuffTake", fn := fun _ => fun
  | [d1, d2] => { results := [.lit (.bool false)], args := [d1, d2] }
  | _ => none }
def StuffTakeWrongFalsely : Prop := stuffTakeRow.holds Try.pinned (OpenSpec.ofChange stuffTakeWrong)

/-- 'omnibuslaw.StuffFixed': WHATEVER THE INPUT: true; the input reads as it did. -/
def stuffFixedSpec : ChangeSpec := { name := "stuffFixed", fn := fun _ => fun
  | [d1, d2, d3] => { results := [.lit (.bool true)], args := [d1, d2, d3] }
  | _ => none }
def stuffFixedRow : OpenClaim := { program := "ytkfgcedbdfjofab", sum := "a55ae280440d1a4c797ab80387a71c4f4edf02fa35755ce2c48dd158a9c28e64", func := "omnibus/omnibuslaw.StuffFixed", spec := "stuffFixed", inPlace := ["internal/bytealg.CountString", "internal/bytealg.IndexByteString", "internal/bytealg.IndexString"], named := ["internal/bytealg.MaxLen"], apart := false }
def StuffFixedSaid : Prop := stuffFixedRow.holds Try.pinned (OpenSpec.ofChange stuffFixedSpec)

/-- ITS FALSE NEIGHBOUR: 'it returns false'. Refute it at one input. -/
def stuffFixedWrong : ChangeSpec := { name := "stuffFixed", fn := fun _ => fun
  | [d1, d2, d3] => { results := [.lit (.bool false)], args := [d1, d2, d3] }
  | _ => none }
def StuffFixedWrongFalsely : Prop := stuffFixedRow.holds Try.pinned (OpenSpec.ofChange stuffFixedWrong)

/-- 'omnibuslaw.StuffBack': WHATEVER THE INPUT: true; the input reads as it did. -/
def stuffBackSpec : ChangeSpec := { name := "stuffBack", fn := fun _ => fun
  | [d1, d2] => { results := [.lit (.bool true)], args := [d1, d2] }
  | _ => none }
def stuffBackRow : OpenClaim := { program := "ytkfgcedbdfjofab", sum := "a55ae280440d1a4c797ab80387a71c4f4edf02fa35755ce2c48dd158a9c28e64", func := "omnibus/omnibuslaw.StuffBack", spec := "stuffBack", apart := false }
def StuffBackSaid : Prop := stuffBackRow.holds Try.pinned (OpenSpec.ofChange stuffBackSpec)

/-- ITS FALSE NEIGHBOUR: 'it returns false'. Refute it at one input. -/
def stuffBackWrong : ChangeSpec := { name := "stuffBack", fn := fun _ => fun
  | [d1, d2] => { results := [.lit (.bool false)], args := [d1, d2] }
  | _ => none }
def StuffBackWrongFalsely : Prop := stuffBackRow.holds Try.pinned (OpenSpec.ofChange stuffBackWrong)

/- THE SECOND FORM. 'bulk': how many values and letters a reading holds, each counted each time it is reached (what is shared counts as often as it is met; a slice's spare places count too). A statement '..UptoSaid' is the law's where the arguments, and the package variables that the reading takes, are together of bulk at most 1048576: NARROWER than '..Said'. Prove '..Said' where nothing that the law and all that it calls make is longer than what came in: it says more and counts as full. Else prove '..UptoSaid'. A law counts once. -/
mutual
def uptoBulk {H : Type} : DataW H → Nat
  | .lit (.string bytes) => bytes.length + 1
  | .lit _ => 1
  | .nil => 1
  | .ptr d => uptoBulk d + 1
  | .slice elems spare => uptoBulkAll elems + uptoBulkAll spare + 1
  | .agg parts => uptoBulkAll parts + 1
  | .iface _ d => uptoBulk d + 1
  | .map entries => uptoBulkEntries entries + 1
  | .held _ => 1
def uptoBulkAll {H : Type} : List (DataW H) → Nat
  | [] => 0
  | d :: r => uptoBulk d + uptoBulkAll r
def uptoBulkEntries {H : Type} : List (Lit × DataW H) → Nat
  | [] => 0
  | x :: r => uptoBulkEntry x + uptoBulkEntries r
def uptoBulkEntry {H : Type} : Lit × DataW H → Nat
  | (.string bytes, d) => bytes.length + uptoBulk d + 1
  | (_, d) => uptoBulk d + 1
 end
def uptoSmall : (H : Type) → List (DataW H) → Bool := fun _ ds => decide (uptoBulkAll ds ≤ 1048576)
def OpenSpec.upto (s : _root_.Go.ChangeSpec) : _root_.Go.OpenSpec := { _root_.Go.OpenSpec.ofChange s with cond := some uptoSmall }

/-- 'omnibuslaw.StuffTake', WHERE WHAT IT READS IS OF BULK AT MOST 1048576: true; the input reads as it did. -/
def stuffTakeUptoRow : OpenClaim := { program := "ytkfgcedbdfjofab", sum := "a55ae280440d1a4c797ab80387a71c4f4edf02fa35755ce2c48dd158a9c28e64", func := "omnibus/omnibuslaw.StuffTake", spec := "stuffTake", inPlace := ["internal/bytealg.CountString", "internal/bytealg.IndexByteString", "internal/bytealg.IndexString"], named := ["internal/bytealg.MaxLen"], apart := false, narrowed := true }
def StuffTakeUptoSaid : Prop := stuffTakeUptoRow.holds Try.pinned (OpenSpec.upto stuffTakeSpec)

/-- 'omnibuslaw.StuffFixed', WHERE WHAT IT READS IS OF BULK AT MOST 1048576: true; the input reads as it did. -/
def stuffFixedUptoRow : OpenClaim := { program := "ytkfgcedbdfjofab", sum := "a55ae280440d1a4c797ab80387a71c4f4edf02fa35755ce2c48dd158a9c28e64", func := "omnibus/omnibuslaw.StuffFixed", spec := "stuffFixed", inPlace := ["internal/bytealg.CountString", "internal/bytealg.IndexByteString", "internal/bytealg.IndexString"], named := ["internal/bytealg.MaxLen"], apart := false, narrowed := true }
def StuffFixedUptoSaid : Prop := stuffFixedUptoRow.holds Try.pinned (OpenSpec.upto stuffFixedSpec)

/-- 'omnibuslaw.StuffBack', WHERE WHAT IT READS IS OF BULK AT MOST 1048576: true; the input reads as it did. -/
def stuffBackUptoRow : OpenClaim := { program := "ytkfgcedbdfjofab", sum := "a55ae280440d1a4c797ab80387a71c4f4edf02fa35755ce2c48dd158a9c28e64", func := "omnibus/omnibuslaw.StuffBack", spec := "stuffBack", apart := false, narrowed := true }
def StuffBackUptoSaid : Prop := stuffBackUptoRow.holds Try.pinned (OpenSpec.upto stuffBackSpec)

end Rows
end Go.Proofs.Ytkfgcedbdfjofab
