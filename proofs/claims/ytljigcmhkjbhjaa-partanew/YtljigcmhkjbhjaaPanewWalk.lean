/- What PartAnew answers: true. -/
import Derived.Test.YtljigcmhkjbhjaaRows
import Derived.Test.YtljigcmhkjbhjaaPtAnewLaw
import Derived.Test.YtljigcmhkjbhjaaPtOpen
namespace Go.Proofs.Ytljigcmhkjbhjaa
open Go.ChangeShapes Go.WideShapes Go.ChangeAt Go.RowKit
namespace partAnew
open Bw
theorem walk (want next block left : Int) (a : Option Addr) (n cap : Nat) (zs : List Int) (b : Option Addr) (m mc : Nat) (ys : List Int) (w : World) (hG : IsRow .u8 w a n cap zs) (hD : IsRow .u8 w b m mc ys) :
    Calls Try.prog 8 #[gtV want a n cap next block left, .slice b m mc] w fun e w' => e = .returned (.bool true) ∧ Below w.heap.size w w' := by
  obtain ⟨dt, hdt⟩ := isBytes_of_row hG
  obtain ⟨l, hl⟩ := isBytes_of_row hD
  by_cases hS : szP m = 0
  · have hn := szP_ok hS
    cases b with
    | none => have := hl.2.2.2.1 rfl; omega
    | some x =>
      by_cases hE : gtE n want next block left = 0
      · exact panew_ok want a n cap next block left dt x m mc l w hdt hl hn.1 hn.2 hE
      · exact panew_bad want a n cap next block left x m mc l w (Nat.le_trans hdt.2.1 hdt.2.2.1) hl hn.1 hn.2 hE
  · exact panew_split want a n cap next block left b m mc w (Nat.le_trans hl.2.1 hl.2.2.1) hS
end partAnew
end Go.Proofs.Ytljigcmhkjbhjaa
