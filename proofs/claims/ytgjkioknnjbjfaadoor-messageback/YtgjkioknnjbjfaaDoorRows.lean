/-
  NARROWER THAN 'FOR EVERY INPUT', by the rows' own cells (each row's printed sentence says how): MessageCheck: laid · MessageBack: laid · MessageFound: laid.
  DERIVED. THE GIVEN ROWS OF THIS SEAT. 3 by the template 'for every input the law returns true; each argument reads behind the call as it read before'; 0 by the template 'total and deterministic' (their statements: YtgjkioknnjbjfaaDoorTotals.lean).
  GIVEN WITH THE SEED: the statements are not yours to turn. If you find one false, say at which input.
  Laid BY PROGRAM, IN A SANDBOX (cutbox-rows.mjs): the forced cells as the released guide's own fill.sh prints them over the translation 801f24cdcc6c14ba… (all of the seat's roots in one cut). By AI agents, Wed Nov 11 2026. No macro, syntax, notation, axiom, sorry.
-/
import Derived.Test.YtgjkioknnjbjfaaDoorChecked
import GoSem.PinnedTables
import GoSem.Claim
import GoSem.ClaimJoined
import GoSem.ClaimMapViews
import Derived.JoinedTies
import Derived.KernelRfl
namespace Go.Proofs.YtgjkioknnjbjfaaDoor
/- THE CELL 'sum', in the pinned program and in every row, IS THE sha256 OF THE DUMP (.gsa) THAT YtgjkioknnjbjfaaDoorProg.lean LOADS. Nothing in Lean hashes anything: it is a label: what it is worth is what the hold of that sum in a sandbox is worth. -/
noncomputable def Tryd.pinned : Pinned := { name := "ytgjkioknnjbjfaadoor", sum := "801f24cdcc6c14ba8f980ec221224f3335c8ab7ee175e35a5b05e941b4034025", checked := Tryd.checked }
namespace Rows
def none {H : Type} : Left H := { results := [], args := [] }

/- WHAT THE LISTED PACKAGE-LEVEL VARIABLES READ AS WHEN THE CALL BEGINS. Each datum BY PROGRAM (the guide's laid-datum.mjs) off the statement by which the dump's own 'gosem.cut.vars' lays the variable. In a bare row this is a premise. The card (YtgjkioknnjbjfaaDoorCards.lean) ties it to the program's text. -/
def laid_unicode_utf8_acceptRanges {H : Type} : DataW H := .agg [.agg [.lit (.int .u8 128), .lit (.int .u8 191)], .agg [.lit (.int .u8 160), .lit (.int .u8 191)], .agg [.lit (.int .u8 128), .lit (.int .u8 159)], .agg [.lit (.int .u8 144), .lit (.int .u8 191)], .agg [.lit (.int .u8 128), .lit (.int .u8 143)], .agg [.lit (.int .u8 0), .lit (.int .u8 0)], .agg [.lit (.int .u8 0), .lit (.int .u8 0)], .agg [.lit (.int .u8 0), .lit (.int .u8 0)], .agg [.lit (.int .u8 0), .lit (.int .u8 0)], .agg [.lit (.int .u8 0), .lit (.int .u8 0)], .agg [.lit (.int .u8 0), .lit (.int .u8 0)], .agg [.lit (.int .u8 0), .lit (.int .u8 0)], .agg [.lit (.int .u8 0), .lit (.int .u8 0)], .agg [.lit (.int .u8 0), .lit (.int .u8 0)], .agg [.lit (.int .u8 0), .lit (.int .u8 0)], .agg [.lit (.int .u8 0), .lit (.int .u8 0)]]
def laid_omnibus_frame_sizes {H : Type} : DataW H := .agg [.lit (.int .i64 0), .lit (.int .i64 1), .lit (.int .i64 2), .lit (.int .i64 3), .lit (.int .i64 4), .lit (.int .i64 5), .lit (.int .i64 6), .lit (.int .i64 7), .lit (.int .i64 8), .lit (.int .i64 12), .lit (.int .i64 16), .lit (.int .i64 20), .lit (.int .i64 24), .lit (.int .i64 32), .lit (.int .i64 48), .lit (.int .i64 64)]
/-- One of Go's own tables, pinned by name: the form's constant. -/
def laid_unicode_utf8_first : DataW Unit := Go.Pinned.utf8First

/-- 'omnibuslaw.MessageCheck': WHATEVER THE INPUT: true; the input reads as it did. -/
def messageCheckSpec : ChangeSpec := { name := "messageCheck", fn := fun _ => fun
  | [d1, d2] => { results := [.lit (.bool true)], args := [d1, d2] }
  | _ => none }
def messageCheckRow : OpenClaim := { program := "ytgjkioknnjbjfaadoor", sum := "801f24cdcc6c14ba8f980ec221224f3335c8ab7ee175e35a5b05e941b4034025", func := "omnibus/omnibuslaw.MessageCheck", spec := "messageCheck", inPlace := ["internal/bytealg.IndexByteString", "internal/bytealg.IndexString"], unfollowed := true, recurses := true, named := ["omnibus/frame.sizes", "unicode/utf8.first", "unicode/utf8.acceptRanges", "internal/bytealg.MaxLen"], apart := false, laid := [("unicode/utf8.acceptRanges", laid_unicode_utf8_acceptRanges), ("omnibus/frame.sizes", laid_omnibus_frame_sizes), ("unicode/utf8.first", laid_unicode_utf8_first)] }
def MessageCheckSaid : Prop := messageCheckRow.holds Tryd.pinned (OpenSpec.ofChange messageCheckSpec)

/-- ITS FALSE NEIGHBOUR: 'it returns false'. Refute it at one input. -/
def messageCheckWrong : ChangeSpec := { name := "messageCheck", fn := fun _ => fun
  | [d1, d2] => { results := [.lit (.bool false)], args := [d1, d2] }
  | _ => none }
def MessageCheckWrongFalsely : Prop := messageCheckRow.holds Tryd.pinned (OpenSpec.ofChange messageCheckWrong)

/-- 'omnibuslaw.MessageBack': WHATEVER THE INPUT: true; the input reads as it did. -/
def messageBackSpec : ChangeSpec := { name := "messageBack", fn := fun _ => fun
  | [d1, d2] => { results := [.lit (.bool true)], args := [d1, d2] }
  | _ => none }
def messageBackRow : OpenClaim := { program := "ytgjkioknnjbjfaadoor", sum := "801f24cdcc6c14ba8f980ec221224f3335c8ab7ee175e35a5b05e941b4034025", func := "omnibus/omnibuslaw.MessageBack", spec := "messageBack", unfollowed := true, recurses := true, named := ["omnibus/frame.sizes"], apart := false, laid := [("omnibus/frame.sizes", laid_omnibus_frame_sizes)] }
def MessageBackSaid : Prop := messageBackRow.holds Tryd.pinned (OpenSpec.ofChange messageBackSpec)

/-- ITS FALSE NEIGHBOUR: 'it returns false'. Refute it at one input. -/
def messageBackWrong : ChangeSpec := { name := "messageBack", fn := fun _ => fun
  | [d1, d2] => { results := [.lit (.bool false)], args := [d1, d2] }
  | _ => none }
def MessageBackWrongFalsely : Prop := messageBackRow.holds Tryd.pinned (OpenSpec.ofChange messageBackWrong)

/-- 'omnibuslaw.MessageFound': WHATEVER THE INPUT: true; the input reads as it did. -/
def messageFoundSpec : ChangeSpec := { name := "messageFound", fn := fun _ => fun
  | [d1, d2] => { results := [.lit (.bool true)], args := [d1, d2] }
  | _ => none }
def messageFoundRow : OpenClaim := { program := "ytgjkioknnjbjfaadoor", sum := "801f24cdcc6c14ba8f980ec221224f3335c8ab7ee175e35a5b05e941b4034025", func := "omnibus/omnibuslaw.MessageFound", spec := "messageFound", unfollowed := true, recurses := true, named := ["omnibus/frame.sizes"], apart := false, laid := [("omnibus/frame.sizes", laid_omnibus_frame_sizes)] }
def MessageFoundSaid : Prop := messageFoundRow.holds Tryd.pinned (OpenSpec.ofChange messageFoundSpec)

/-- ITS FALSE NEIGHBOUR: 'it returns false'. Refute it at one input. -/
def messageFoundWrong : ChangeSpec := { name := "messageFound", fn := fun _ => fun
  | [d1, d2] => { results := [.lit (.bool false)], args := [d1, d2] }
  | _ => none }
def MessageFoundWrongFalsely : Prop := messageFoundRow.holds Tryd.pinned (OpenSpec.ofChange messageFoundWrong)

/- THE SECOND FORM. 'bulk': how many values and letters a reading holds, each counted each time it is reached (what is shared counts as often as it is met; a slice's spare places count too). A statement '..UptoSaid' is the law's where the arguments, and the package variables that the reading takes, are together of bulk at most 1048576: NARROWER than '..Said'. Prove '..Said' where nothing that the law and all that it calls make is longer than what came in: it says more and counts as full. Else prove '..UptoSaid'. A law counts once. -/
mutual
def uptoBulk {H : Type} : DataW H → Nat
  | .lit (.string bytes) => bytes.length + 1
  | .lit _ => 1
  | .nil => 1
  | .ptr d => uptoBulk d + 1
  | .slice elems spare => uptoBulkAll elems + uptoBulkAll spare + 1
  | .agg parts => uptoBulkAll parts + 1
  | .iface _ d => uptoBulk d + 1
  | .map entries => uptoBulkEntries entries + 1
  | .held _ => 1
def uptoBulkAll {H : Type} : List (DataW H) → Nat
  | [] => 0
  | d :: r => uptoBulk d + uptoBulkAll r
def uptoBulkEntries {H : Type} : List (Lit × DataW H) → Nat
  | [] => 0
  | x :: r => uptoBulkEntry x + uptoBulkEntries r
def uptoBulkEntry {H : Type} : Lit × DataW H → Nat
  | (.string bytes, d) => bytes.length + uptoBulk d + 1
  | (_, d) => uptoBulk d + 1
 end
def uptoSmall : (H : Type) → List (DataW H) → Bool := fun _ ds => decide (uptoBulkAll ds ≤ 1048576)
def OpenSpec.upto (s : _root_.Go.ChangeSpec) : _root_.Go.OpenSpec := { _root_.Go.OpenSpec.ofChange s with cond := some uptoSmall }

/-- 'omnibuslaw.MessageCheck', WHERE WHAT IT READS IS OF BULK AT MOST 1048576: true; the input reads as it did. -/
def messageCheckUptoRow : OpenClaim := { program := "ytgjkioknnjbjfaadoor", sum := "801f24cdcc6c14ba8f980ec221224f3335c8ab7ee175e35a5b05e941b4034025", func := "omnibus/omnibuslaw.MessageCheck", spec := "messageCheck", inPlace := ["internal/bytealg.IndexByteString", "internal/bytealg.IndexString"], unfollowed := true, recurses := true, named := ["omnibus/frame.sizes", "unicode/utf8.first", "unicode/utf8.acceptRanges", "internal/bytealg.MaxLen"], apart := false, laid := [("unicode/utf8.acceptRanges", laid_unicode_utf8_acceptRanges), ("omnibus/frame.sizes", laid_omnibus_frame_sizes), ("unicode/utf8.first", laid_unicode_utf8_first)], narrowed := true }
def MessageCheckUptoSaid : Prop := messageCheckUptoRow.holds Tryd.pinned (OpenSpec.upto messageCheckSpec)

/-- 'omnibuslaw.MessageBack', WHERE WHAT IT READS IS OF BULK AT MOST 1048576: true; the input reads as it did. -/
def messageBackUptoRow : OpenClaim := { program := "ytgjkioknnjbjfaadoor", sum := "801f24cdcc6c14ba8f980ec221224f3335c8ab7ee175e35a5b05e941b4034025", func := "omnibus/omnibuslaw.MessageBack", spec := "messageBack", unfollowed := true, recurses := true, named := ["omnibus/frame.sizes"], apart := false, laid := [("omnibus/frame.sizes", laid_omnibus_frame_sizes)], narrowed := true }
def MessageBackUptoSaid : Prop := messageBackUptoRow.holds Tryd.pinned (OpenSpec.upto messageBackSpec)

/-- 'omnibuslaw.MessageFound', WHERE WHAT IT READS IS OF BULK AT MOST 1048576: true; the input reads as it did. -/
def messageFoundUptoRow : OpenClaim := { program := "ytgjkioknnjbjfaadoor", sum := "801f24cdcc6c14ba8f980ec221224f3335c8ab7ee175e35a5b05e941b4034025", func := "omnibus/omnibuslaw.MessageFound", spec := "messageFound", unfollowed := true, recurses := true, named := ["omnibus/frame.sizes"], apart := false, laid := [("omnibus/frame.sizes", laid_omnibus_frame_sizes)], narrowed := true }
def MessageFoundUptoSaid : Prop := messageFoundUptoRow.holds Tryd.pinned (OpenSpec.upto messageFoundSpec)

end Rows
end Go.Proofs.YtgjkioknnjbjfaaDoor
