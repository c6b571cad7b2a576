/- slices.ContainsFunc of messages. -/
import Derived.Test.YtgjkioknnjbjfaaDoorMgFuncI
namespace Go.Proofs.YtgjkioknnjbjfaaDoor
open Go.ChangeShapes Go.WideShapes Go.ChangeAt Go.RowKit
namespace Bw
open Sm
set_option maxHeartbeats 2000000 in
theorem containsFuncMs (g : Nat) (lb : Array Value) (eg : ∀ args w, (callFunc g args).run Tryd.prog w = .ok (.enter g args) w) (p : MsV → Bool) (a : Option Addr) (n c : Nat) (l : List MsV) (w : World) (hF : IsMsgs w a n c l)
    (hp : ∀ W x, Below w.heap.size w W → x ∈ l → Calls Tryd.prog g (#[msV x] ++ lb) W fun e w' => e = .returned (.bool (p x)) ∧ Below W.heap.size W w') :
    Calls Tryd.prog 32 #[.slice a n c, .func (.func g) #[] lb] w fun e w' => e = .returned (.bool (l.any p)) ∧ Below w.heap.size w w' := by
  have HI := Hid.mk (indexFuncMs g lb eg p a n c l w hF hp)
  have HR := Hid.mk (idx_any p noM (l := l) (n := n) hF.row.len)
  clear hF hp eg
  generalize idxK (fun i => p (l.getD i noM)) n = r at *
  go_enter Tryd.func32, Tryd.ntmps32
  go_wp2_with fail
  refine HI.out.mono ?_
  rintro e w1 ⟨rfl, hb⟩
  have HB := Hid.mk hb
  clear hb
  go_wp2_with fail
  go_ret
  exact ⟨by rw [← HR.out]; rfl, HB.out⟩
end Bw
end Go.Proofs.YtgjkioknnjbjfaaDoor
