/-
  NARROWER THAN 'FOR EVERY INPUT', by the rows' own cells (each row's printed sentence says how): FrameApart: laid · FrameNames: laid.
  DERIVED. THE GIVEN ROWS OF THIS SEAT. 2 by the template 'for every input the law returns true; each argument reads behind the call as it read before'; 0 by the template 'total and deterministic' (their statements: YtacfkdgepknpkalDoorTotals.lean).
  GIVEN WITH THE SEED: the statements are not yours to turn. If you find one false, say at which input.
  Laid BY PROGRAM, IN A SANDBOX (cutbox-rows.mjs): the forced cells as the released guide's own fill.sh prints them over the translation 5227256204c7f08f… (all of the seat's roots in one cut). By AI agents, Wed Nov 11 2026. No macro, syntax, notation, axiom, sorry.
-/
import Derived.Test.YtacfkdgepknpkalDoorChecked
import GoSem.Claim
import GoSem.ClaimJoined
import GoSem.ClaimMapViews
import Derived.JoinedTies
import Derived.KernelRfl
namespace Go.Proofs.YtacfkdgepknpkalDoor
/- THE CELL 'sum', in the pinned program and in every row, IS THE sha256 OF THE DUMP (.gsa) THAT YtacfkdgepknpkalDoorProg.lean LOADS. Nothing in Lean hashes anything: it is a label: what it is worth is what the hold of that sum in a sandbox is worth. -/
noncomputable def Tryd.pinned : Pinned := { name := "ytacfkdgepknpkaldoor", sum := "5227256204c7f08f1bc9a9acf0b8a978c3a0b2350fdd0c775dfd2eb2b0c04215", checked := Tryd.checked }
namespace Rows
def none {H : Type} : Left H := { results := [], args := [] }

/- WHAT THE LISTED PACKAGE-LEVEL VARIABLES READ AS WHEN THE CALL BEGINS. Each datum BY PROGRAM (the guide's laid-datum.mjs) off the statement by which the dump's own 'gosem.cut.vars' lays the variable. In a bare row this is a premise. The card (YtacfkdgepknpkalDoorCards.lean) ties it to the program's text. -/
def laid_omnibus_check_rules {H : Type} : DataW H := .agg [.agg [.lit (.int .i64 15), .lit (.int .i64 17817), .lit (.int .i64 0), .lit (.int .i64 0)], .agg [.lit (.int .i64 17), .lit (.int .i64 92251), .lit (.int .i64 65536), .lit (.int .i64 0)], .agg [.lit (.int .i64 21), .lit (.int .i64 1058969), .lit (.int .i64 1048576), .lit (.int .i64 0)], .agg [.lit (.int .i64 8), .lit (.int .i64 47), .lit (.int .i64 255), .lit (.int .i64 255)], .agg [.lit (.int .i64 16), .lit (.int .i64 4129), .lit (.int .i64 65535), .lit (.int .i64 0)]]
def laid_omnibus_frame_sizes {H : Type} : DataW H := .agg [.lit (.int .i64 0), .lit (.int .i64 1), .lit (.int .i64 2), .lit (.int .i64 3), .lit (.int .i64 4), .lit (.int .i64 5), .lit (.int .i64 6), .lit (.int .i64 7), .lit (.int .i64 8), .lit (.int .i64 12), .lit (.int .i64 16), .lit (.int .i64 20), .lit (.int .i64 24), .lit (.int .i64 32), .lit (.int .i64 48), .lit (.int .i64 64)]

/-- 'omnibuslaw.FrameApart': WHATEVER THE INPUT: true; the input reads as it did. -/
def frameApartSpec : ChangeSpec := { name := "frameApart", fn := fun _ => fun
  | [d1, d2] => { results := [.lit (.bool true)], args := [d1, d2] }
  | _ => none }
def frameApartRow : OpenClaim := { program := "ytacfkdgepknpkaldoor", sum := "5227256204c7f08f1bc9a9acf0b8a978c3a0b2350fdd0c775dfd2eb2b0c04215", func := "omnibus/omnibuslaw.FrameApart", spec := "frameApart", inPlace := ["internal/bytealg.CountString", "internal/bytealg.IndexByteString", "internal/bytealg.IndexString"], named := ["omnibus/frame.sizes", "omnibus/check.rules", "internal/bytealg.MaxLen"], apart := false, laid := [("omnibus/check.rules", laid_omnibus_check_rules), ("omnibus/frame.sizes", laid_omnibus_frame_sizes)] }
def FrameApartSaid : Prop := frameApartRow.holds Tryd.pinned (OpenSpec.ofChange frameApartSpec)

/-- ITS FALSE NEIGHBOUR: 'it returns false'. Refute it at one input. -/
def frameApartWrong : ChangeSpec := { name := "frameApart", fn := fun _ => fun
  | [d1, d2] => { results := [.lit (.bool false)], args := [d1, d2] }
  | _ => none }
def FrameApartWrongFalsely : Prop := frameApartRow.holds Tryd.pinned (OpenSpec.ofChange frameApartWrong)

/-- 'omnibuslaw.FrameNames': WHATEVER THE INPUT: true; the input reads as it did. -/
def frameNamesSpec : ChangeSpec := { name := "frameNames", fn := fun _ => fun
  | [d1, d2] => { results := [.lit (.bool true)], args := [d1, d2] }
  | _ => none }
def frameNamesRow : OpenClaim := { program := "ytacfkdgepknpkaldoor", sum := "5227256204c7f08f1bc9a9acf0b8a978c3a0b2350fdd0c775dfd2eb2b0c04215", func := "omnibus/omnibuslaw.FrameNames", spec := "frameNames", inPlace := ["internal/bytealg.CountString", "internal/bytealg.IndexByteString", "internal/bytealg.IndexString"], named := ["omnibus/frame.sizes", "omnibus/check.rules", "internal/bytealg.MaxLen"], apart := false, laid := [("omnibus/check.rules", laid_omnibus_check_rules), ("omnibus/frame.sizes", laid_omnibus_frame_sizes)] }
def FrameNamesSaid : Prop := frameNamesRow.holds Tryd.pinned (OpenSpec.ofChange frameNamesSpec)

/-- ITS FALSE NEIGHBOUR: 'it returns false'. Refute it at one input. -/
def frameNamesWrong : ChangeSpec := { name := "frameNames", fn := fun _ => fun
  | [d1, d2] => { results := [.lit (.bool false)], args := [d1, d2] }
  | _ => none }
def FrameNamesWrongFalsely : Prop := frameNamesRow.holds Tryd.pinned (OpenSpec.ofChange frameNamesWrong)

/- THE SECOND FORM. 'bulk': how many values and letters a reading holds, each counted each time it is reached (what is shared counts as often as it is met; a slice's spare places count too). A statement '..UptoSaid' is the law's where the arguments, and the package variables that the reading takes, are together of bulk at most 1048576: NARROWER than '..Said'. Prove '..Said' where nothing that the law and all that it calls make is longer than what came in: it says more and counts as full. Else prove '..UptoSaid'. A law counts once. -/
mutual
def uptoBulk {H : Type} : DataW H → Nat
  | .lit (.string bytes) => bytes.length + 1
  | .lit _ => 1
  | .nil => 1
  | .ptr d => uptoBulk d + 1
  | .slice elems spare => uptoBulkAll elems + uptoBulkAll spare + 1
  | .agg parts => uptoBulkAll parts + 1
  | .iface _ d => uptoBulk d + 1
  | .map entries => uptoBulkEntries entries + 1
  | .held _ => 1
def uptoBulkAll {H : Type} : List (DataW H) → Nat
  | [] => 0
  | d :: r => uptoBulk d + uptoBulkAll r
def uptoBulkEntries {H : Type} : List (Lit × DataW H) → Nat
  | [] => 0
  | x :: r => uptoBulkEntry x + uptoBulkEntries r
def uptoBulkEntry {H : Type} : Lit × DataW H → Nat
  | (.string bytes, d) => bytes.length + uptoBulk d + 1
  | (_, d) => uptoBulk d + 1
 end
def uptoSmall : (H : Type) → List (DataW H) → Bool := fun _ ds => decide (uptoBulkAll ds ≤ 1048576)
def OpenSpec.upto (s : _root_.Go.ChangeSpec) : _root_.Go.OpenSpec := { _root_.Go.OpenSpec.ofChange s with cond := some uptoSmall }

/-- 'omnibuslaw.FrameApart', WHERE WHAT IT READS IS OF BULK AT MOST 1048576: true; the input reads as it did. -/
def frameApartUptoRow : OpenClaim := { program := "ytacfkdgepknpkaldoor", sum := "5227256204c7f08f1bc9a9acf0b8a978c3a0b2350fdd0c775dfd2eb2b0c04215", func := "omnibus/omnibuslaw.FrameApart", spec := "frameApart", inPlace := ["internal/bytealg.CountString", "internal/bytealg.IndexByteString", "internal/bytealg.IndexString"], named := ["omnibus/frame.sizes", "omnibus/check.rules", "internal/bytealg.MaxLen"], apart := false, laid := [("omnibus/check.rules", laid_omnibus_check_rules), ("omnibus/frame.sizes", laid_omnibus_frame_sizes)], narrowed := true }
def FrameApartUptoSaid : Prop := frameApartUptoRow.holds Tryd.pinned (OpenSpec.upto frameApartSpec)

/-- 'omnibuslaw.FrameNames', WHERE WHAT IT READS IS OF BULK AT MOST 1048576: true; the input reads as it did. -/
def frameNamesUptoRow : OpenClaim := { program := "ytacfkdgepknpkaldoor", sum := "5227256204c7f08f1bc9a9acf0b8a978c3a0b2350fdd0c775dfd2eb2b0c04215", func := "omnibus/omnibuslaw.FrameNames", spec := "frameNames", inPlace := ["internal/bytealg.CountString", "internal/bytealg.IndexByteString", "internal/bytealg.IndexString"], named := ["omnibus/frame.sizes", "omnibus/check.rules", "internal/bytealg.MaxLen"], apart := false, laid := [("omnibus/check.rules", laid_omnibus_check_rules), ("omnibus/frame.sizes", laid_omnibus_frame_sizes)], narrowed := true }
def FrameNamesUptoSaid : Prop := frameNamesUptoRow.holds Tryd.pinned (OpenSpec.upto frameNamesSpec)

end Rows
end Go.Proofs.YtacfkdgepknpkalDoor
