/-
  No cell of these rows narrows 'for every input' (looked for: loops, veiled, ifaces, maps, wideKeys, modest, calm, conditions, laid).
  DERIVED. THE GIVEN ROWS OF THIS SEAT. 6 by the template 'for every input the law returns true; each argument reads behind the call as it read before'; 0 by the template 'total and deterministic' (their statements: YtgjnfmbmndnihaaTotals.lean).
  GIVEN WITH THE SEED: the statements are not yours to turn. If you find one false, say at which input.
  Laid BY PROGRAM, IN A SANDBOX (cutbox-rows.mjs): the forced cells as the released guide's own fill.sh prints them over the translation 7766526ca7d2e434… (all of the seat's roots in one cut). By AI agents, Wed Nov 11 2026. No macro, syntax, notation, axiom, sorry.
-/
import Derived.Test.YtgjnfmbmndnihaaChecked
import GoSem.Claim
import GoSem.ClaimJoined
import GoSem.ClaimMapViews
import Derived.JoinedTies
import Derived.KernelRfl
namespace Go.Proofs.Ytgjnfmbmndnihaa
/- THE CELL 'sum', in the pinned program and in every row, IS THE sha256 OF THE DUMP (.gsa) THAT YtgjnfmbmndnihaaProg.lean LOADS. Nothing in Lean hashes anything: it is a label: what it is worth is what the hold of that sum in a sandbox is worth. -/
noncomputable def Try.pinned : Pinned := { name := "ytgjnfmbmndnihaa", sum := "7766526ca7d2e434b7a6f23f40579340e01b6b2e8ee33b0d411bc0c33b1e40d8", checked := Try.checked }
namespace Rows
def none {H : Type} : Left H := { results := [], args := [] }

/-- 'omnibuslaw.PartSplit': WHATEVER THE INPUT: true; the input reads as it did. -/
def partSplitSpec : ChangeSpec := { name := "partSplit", fn := fun _ => fun
  | [d] => { results := [.lit (.bool true)], args := [d] }
  | _ => none }
def partSplitRow : OpenClaim := { program := "ytgjnfmbmndnihaa", sum := "7766526ca7d2e434b7a6f23f40579340e01b6b2e8ee33b0d411bc0c33b1e40d8", func := "omnibus/omnibuslaw.PartSplit", spec := "partSplit", unfollowed := true, recurses := true, apart := false }
def PartSplitSaid : Prop := partSplitRow.holds Try.pinned (OpenSpec.ofChange partSplitSpec)

/-- ITS FALSE NEIGHBOUR: 'it returns false'. Refute it at one input. -/
def partSplitWrong : ChangeSpec := { name := "partSplit", fn := fun _ => fun
  | [d] => { results := [.lit (.bool false)], args := [d] }
  | _ => none }
def PartSplitWrongFalsely : Prop := partSplitRow.holds Try.pinned (OpenSpec.ofChange partSplitWrong)

/-- 'omnibuslaw.PartTold': WHATEVER THE INPUT: true; the input reads as it did. -/
def partToldSpec : ChangeSpec := { name := "partTold", fn := fun _ => fun
  | [d1, d2] => { results := [.lit (.bool true)], args := [d1, d2] }
  | _ => none }
def partToldRow : OpenClaim := { program := "ytgjnfmbmndnihaa", sum := "7766526ca7d2e434b7a6f23f40579340e01b6b2e8ee33b0d411bc0c33b1e40d8", func := "omnibus/omnibuslaw.PartTold", spec := "partTold", apart := false }
def PartToldSaid : Prop := partToldRow.holds Try.pinned (OpenSpec.ofChange partToldSpec)

/-- ITS FALSE NEIGHBOUR: 'it returns false'. Refute it at one input. -/
def partToldWrong : ChangeSpec := { name := "partTold", fn := fun _ => fun
  | [d1, d2] => { results := [.lit (.bool false)], args := [d1, d2] }
  | _ => none }
def PartToldWrongFalsely : Prop := partToldRow.holds Try.pinned (OpenSpec.ofChange partToldWrong)

/-- 'omnibuslaw.PartGet': WHATEVER THE INPUT: true; the input reads as it did. -/
def partGetSpec : ChangeSpec := { name := "partGet", fn := fun _ => fun
  | [d1, d2] => { results := [.lit (.bool true)], args := [d1, d2] }
  | _ => none }
def partGetRow : OpenClaim := { program := "ytgjnfmbmndnihaa", sum := "7766526ca7d2e434b7a6f23f40579340e01b6b2e8ee33b0d411bc0c33b1e40d8", func := "omnibus/omnibuslaw.PartGet", spec := "partGet", unfollowed := true, recurses := true, apart := false }
def PartGetSaid : Prop := partGetRow.holds Try.pinned (OpenSpec.ofChange partGetSpec)

/-- ITS FALSE NEIGHBOUR: 'it returns false'. Refute it at one input. -/
def partGetWrong : ChangeSpec := { name := "partGet", fn := fun _ => fun
  | [d1, d2] => { results := [.lit (.bool false)], args := [d1, d2] }
  | _ => none }
def PartGetWrongFalsely : Prop := partGetRow.holds Try.pinned (OpenSpec.ofChange partGetWrong)

/-- 'omnibuslaw.PartSend': WHATEVER THE INPUT: true; the input reads as it did. -/
def partSendSpec : ChangeSpec := { name := "partSend", fn := fun _ => fun
  | [d1, d2] => { results := [.lit (.bool true)], args := [d1, d2] }
  | _ => none }
def partSendRow : OpenClaim := { program := "ytgjnfmbmndnihaa", sum := "7766526ca7d2e434b7a6f23f40579340e01b6b2e8ee33b0d411bc0c33b1e40d8", func := "omnibus/omnibuslaw.PartSend", spec := "partSend", apart := false }
def PartSendSaid : Prop := partSendRow.holds Try.pinned (OpenSpec.ofChange partSendSpec)

/-- ITS FALSE NEIGHBOUR: 'it returns false'. Refute it at one input. -/
def partSendWrong : ChangeSpec := { name := "partSend", fn := fun _ => fun
  | [d1, d2] => { results := [.lit (.bool false)], args := [d1, d2] }
  | _ => none }
def PartSendWrongFalsely : Prop := partSendRow.holds Try.pinned (OpenSpec.ofChange partSendWrong)

/-- 'omnibuslaw.PartLost': WHATEVER THE INPUT: true; the input reads as it did. -/
def partLostSpec : ChangeSpec := { name := "partLost", fn := fun _ => fun
  | [d1, d2] => { results := [.lit (.bool true)], args := [d1, d2] }
  | _ => none }
def partLostRow : OpenClaim := { program := "ytgjnfmbmndnihaa", sum := "7766526ca7d2e434b7a6f23f40579340e01b6b2e8ee33b0d411bc0c33b1e40d8", func := "omnibus/omnibuslaw.PartLost", spec := "partLost", apart := false }
def PartLostSaid : Prop := partLostRow.holds Try.pinned (OpenSpec.ofChange partLostSpec)

/-- ITS FALSE NEIGHBOUR: 'it returns false'. Refute it at one input. -/
def partLostWrong : ChangeSpec := { name := "partLost", fn := fun _ => fun
  | [d1, d2] => { results := [.lit (.bool false)], args := [d1, d2] }
  | _ => none }
def PartLostWrongFalsely : Prop := partLostRow.holds Try.pinned (OpenSpec.ofChange partLostWrong)

/-- 'omnibuslaw.PartAnew': WHATEVER THE INPUT: true; the input reads as it did. -/
def partAnewSpec : ChangeSpec := { name := "partAnew", fn := fun _ => fun
  | [d1, d2] => { results := [.lit (.bool true)], args := [d1, d2] }
  | _ => none }
def partAnewRow : OpenClaim := { program := "ytgjnfmbmndnihaa", sum := "7766526ca7d2e434b7a6f23f40579340e01b6b2e8ee33b0d411bc0c33b1e40d8", func := "omnibus/omnibuslaw.PartAnew", spec := "partAnew", apart := false }
def PartAnewSaid : Prop := partAnewRow.holds Try.pinned (OpenSpec.ofChange partAnewSpec)

/-- ITS FALSE NEIGHBOUR: 'it returns false'. Refute it at one input. -/
def partAnewWrong : ChangeSpec := { name := "partAnew", fn := fun _ => fun
  | [d1, d2] => { results := [.lit (.bool false)], args := [d1, d2] }
  | _ => none }
def PartAnewWrongFalsely : Prop := partAnewRow.holds Try.pinned (OpenSpec.ofChange partAnewWrong)

/- THE SECOND FORM. 'bulk': how many values and letters a reading holds, each counted each time it is reached (what is shared counts as often as it is met; a slice's spare places count too). A statement '..UptoSaid' is the law's where the arguments, and the package variables that the reading takes, are together of bulk at most 1048576: NARROWER than '..Said'. Prove '..Said' where nothing that the law and all that it calls make is longer than what came in: it says more and counts as full. Else prove '..UptoSaid'. A law counts once. -/
mutual
def uptoBulk {H : Type} : DataW H → Nat
  | .lit (.string bytes) => bytes.length + 1
  | .lit _ => 1
  | .nil => 1
  | .ptr d => uptoBulk d + 1
  | .slice elems spare => uptoBulkAll elems + uptoBulkAll spare + 1
  | .agg parts => uptoBulkAll parts + 1
  | .iface _ d => uptoBulk d + 1
  | .map entries => uptoBulkEntries entries + 1
  | .held _ => 1
def uptoBulkAll {H : Type} : List (DataW H) → Nat
  | [] => 0
  | d :: r => uptoBulk d + uptoBulkAll r
def uptoBulkEntries {H : Type} : List (Lit × DataW H) → Nat
  | [] => 0
  | x :: r => uptoBulkEntry x + uptoBulkEntries r
def uptoBulkEntry {H : Type} : Lit × DataW H → Nat
  | (.string bytes, d) => bytes.length + uptoBulk d + 1
  | (_, d) => uptoBulk d + 1
 end
def uptoSmall : (H : Type) → List (DataW H) → Bool := fun _ ds => decide (uptoBulkAll ds ≤ 1048576)
def OpenSpec.upto (s : _root_.Go.ChangeSpec) : _root_.Go.OpenSpec := { _root_.Go.OpenSpec.ofChange s with cond := some uptoSmall }

/-- 'omnibuslaw.PartSplit', WHERE WHAT IT READS IS OF BULK AT MOST 1048576: true; the input reads as it did. -/
def partSplitUptoRow : OpenClaim := { program := "ytgjnfmbmndnihaa", sum := "7766526ca7d2e434b7a6f23f40579340e01b6b2e8ee33b0d411bc0c33b1e40d8", func := "omnibus/omnibuslaw.PartSplit", spec := "partSplit", unfollowed := true, recurses := true, apart := false, narrowed := true }
def PartSplitUptoSaid : Prop := partSplitUptoRow.holds Try.pinned (OpenSpec.upto partSplitSpec)

/-- 'omnibuslaw.PartTold', WHERE WHAT IT READS IS OF BULK AT MOST 1048576: true; the input reads as it did. -/
def partToldUptoRow : OpenClaim := { program := "ytgjnfmbmndnihaa", sum := "7766526ca7d2e434b7a6f23f40579340e01b6b2e8ee33b0d411bc0c33b1e40d8", func := "omnibus/omnibuslaw.PartTold", spec := "partTold", apart := false, narrowed := true }
def PartToldUptoSaid : Prop := partToldUptoRow.holds Try.pinned (OpenSpec.upto partToldSpec)

/-- 'omnibuslaw.PartGet', WHERE WHAT IT READS IS OF BULK AT MOST 1048576: true; the input reads as it did. -/
def partGetUptoRow : OpenClaim := { program := "ytgjnfmbmndnihaa", sum := "7766526ca7d2e434b7a6f23f40579340e01b6b2e8ee33b0d411bc0c33b1e40d8", func := "omnibus/omnibuslaw.PartGet", spec := "partGet", unfollowed := true, recurses := true, apart := false, narrowed := true }
def PartGetUptoSaid : Prop := partGetUptoRow.holds Try.pinned (OpenSpec.upto partGetSpec)

/-- 'omnibuslaw.PartSend', WHERE WHAT IT READS IS OF BULK AT MOST 1048576: true; the input reads as it did. -/
def partSendUptoRow : OpenClaim := { program := "ytgjnfmbmndnihaa", sum := "7766526ca7d2e434b7a6f23f40579340e01b6b2e8ee33b0d411bc0c33b1e40d8", func := "omnibus/omnibuslaw.PartSend", spec := "partSend", apart := false, narrowed := true }
def PartSendUptoSaid : Prop := partSendUptoRow.holds Try.pinned (OpenSpec.upto partSendSpec)

/-- 'omnibuslaw.PartLost', WHERE WHAT IT READS IS OF BULK AT MOST 1048576: true; the input reads as it did. -/
def partLostUptoRow : OpenClaim := { program := "ytgjnfmbmndnihaa", sum := "7766526ca7d2e434b7a6f23f40579340e01b6b2e8ee33b0d411bc0c33b1e40d8", func := "omnibus/omnibuslaw.PartLost", spec := "partLost", apart := false, narrowed := true }
def PartLostUptoSaid : Prop := partLostUptoRow.holds Try.pinned (OpenSpec.upto partLostSpec)

/-- 'omnibuslaw.PartAnew', WHERE WHAT IT READS IS OF BULK AT MOST 1048576: true; the input reads as it did. -/
def partAnewUptoRow : OpenClaim := { program := "ytgjnfmbmndnihaa", sum := "7766526ca7d2e434b7a6f23f40579340e01b6b2e8ee33b0d411bc0c33b1e40d8", func := "omnibus/omnibuslaw.PartAnew", spec := "partAnew", apart := false, narrowed := true }
def PartAnewUptoSaid : Prop := partAnewUptoRow.holds Try.pinned (OpenSpec.upto partAnewSpec)

end Rows
end Go.Proofs.Ytgjnfmbmndnihaa
