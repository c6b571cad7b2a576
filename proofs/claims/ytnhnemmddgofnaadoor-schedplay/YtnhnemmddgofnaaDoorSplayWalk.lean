/- The law SchedPlay, as the row asks it. -/
import Derived.Test.YtnhnemmddgofnaaDoorSbLawA
import Derived.Test.YtnhnemmddgofnaaDoorSbLawC
import Derived.Test.YtnhnemmddgofnaaDoorSbOpen
import Derived.Test.YtnhnemmddgofnaaDoorC22
namespace Go.Proofs.YtnhnemmddgofnaaDoor
open Go.ChangeShapes Go.WideShapes Go.ChangeAt Go.RowKit
namespace schedPlay
open Bw
theorem walk (a : Option Addr) (n c : Nat) (l : List Tk) (b : Option Addr) (m d : Nat) (fs : List Int) (e : Option Addr) (o q : Nat) (lt : List Int) (en : Int) (w : World) (hT : IsTks w a n c l) (hF : IsRow .i64 w b m d fs) (hG : IsRow .i64 w e o q lt) (_he : (Lit.int .i64 en).wf = true) (hL : laidMet Tryd.prog Rows.schedPlayRow.laid w) :
    Calls Tryd.prog 3 #[.slice a n c, .slice b m d, .slice e o q, .int .i64 en] w fun e w' => e = .returned (.bool true) ∧ Below w.heap.size w w' := by
  have hS := sizes_of hL (by simp [Rows.schedPlayRow])
  have hR := rules_of hL (by simp [Rows.schedPlayRow])
  have hD := bruijn_of hL (by simp [Rows.schedPlayRow])
  have h1 := ns_of hF
  have h2 := ns_of hG
  by_cases h : chkT l = 0
  · by_cases hg : m = n ∧ o ≤ 1000 ∧ Sb.isTm en = true
    · exact splay_ok a n c l b m d _ e o q _ en w hT h1 h2 hS hR hD h hg.1 hg.2.1 hg.2.2
    · exact splay_len a n c l b m d _ e o q _ en w hT h1 h2 hS hR h (by
        by_cases q : m ≠ n ∨ 1000 < o ∨ en < 0 ∨ 1000000 < en
        · exact q
        · exact absurd ⟨by omega, by omega, Sb.isTm_iff.2 ⟨by omega, by omega⟩⟩ hg)
  · exact splay_chk a n c l b m d _ e o q _ en w hT h1 h2 hS hR h
end schedPlay
end Go.Proofs.YtnhnemmddgofnaaDoor
