/- What delay.roundedUp and isWrong answer. -/
import Derived.Test.YtnhnemmddgofnaaDoorD1
namespace Go.Proofs.YtnhnemmddgofnaaDoor
open Go.ChangeShapes Go.WideShapes Go.ChangeAt Go.RowKit
namespace Bw
set_option linter.unusedVariables false
set_option maxHeartbeats 1000000 in
theorem roundedUp_any (n d : Nat) (w : World) (hn : n ≤ 1000000000000000) (hd : 1 ≤ d) (hd2 : d ≤ 1000000) :
    Calls Tryd.prog 39 #[.int .i64 n, .int .i64 d] w fun e w' => e = .returned (.int .i64 (upN n d : Nat)) ∧ w' = w := by
  have e1 : ((n : Int) + (d : Int) - 1).tdiv (d : Int) = ((upN n d : Nat) : Int) := by
    rw [show ((n : Int) + (d : Int) - 1) = ((n + d - 1 : Nat) : Int) by omega]; rfl
  have hub : upN n d ≤ n := upN_le hd
  have e2 : IntKind.i64.wrap (((n : Int) + (d : Int) - 1).tdiv (d : Int)) = ((upN n d : Nat) : Int) := by rw [e1, IntKind.wrap_i64]; omega
  obtain ⟨NI, hNI⟩ : ∃ NI : Int, NI = (n : Int) := ⟨_, rfl⟩
  obtain ⟨DI, hDI⟩ : ∃ DI : Int, DI = (d : Int) := ⟨_, rfl⟩
  rw [← hNI, ← hDI] at e1 e2 ⊢
  have a0 : 0 ≤ NI := by omega
  have a1 : NI ≤ 1000000000000000 := by omega
  have a2 : 1 ≤ DI := by omega
  have a3 : DI ≤ 1000000 := by omega
  have a4 : ¬ DI = 0 := by omega
  have hU : upN n d ≤ 1000000000000000 := by omega
  generalize upN n d = U at *
  have hU0 : (U : Int) ≤ 1000000000000000 := by omega
  clear hub hNI hDI hn hd hd2
  go_enter Tryd.func39, Tryd.ntmps39
  go_wp2_with fail
  go_ret
  have e3 : wrap64 (U : Int) = (U : Int) := by unfold wrap64; omega
  exact ⟨by first | rfl | (show Ending.returned (Value.int IntKind.i64 (wrap64 (U : Int))) = _; rw [e3]), rfl⟩
set_option maxHeartbeats 4000000 in
set_option maxRecDepth 100000 in
theorem isWrong_any (r : Tk) (w : World) :
    Calls Tryd.prog 28 #[r.val] w fun e w' => e = .returned (.bool (!okT r)) ∧ Below w.heap.size w w' := by
  have HB := Hid.mk (awD w (tkC r))
  obtain ⟨id, by_, ev, la, ji⟩ := r
  unfold tkC at HB
  unfold Tk.val
  simp only at *
  by_cases h0 : id < 0
  · have e : okT ⟨id, by_, ev, la, ji⟩ = false := by
      rw [Bool.eq_false_iff]; intro h; have := okT_iff.1 h; simp only at this; omega
    rw [e]
    clear e
    go_enter Tryd.func28, Tryd.ntmps28
    go_wp2_with fail
    go_ret
    exact ⟨rfl, HB.out⟩
  by_cases h1 : 2047 < id
  · have e : okT ⟨id, by_, ev, la, ji⟩ = false := by
      rw [Bool.eq_false_iff]; intro h; have := okT_iff.1 h; simp only at this; omega
    rw [e]
    clear e
    go_enter Tryd.func28, Tryd.ntmps28
    go_wp2_with fail
    go_ret
    exact ⟨rfl, HB.out⟩
  by_cases h2 : ev < 1
  · have e : okT ⟨id, by_, ev, la, ji⟩ = false := by
      rw [Bool.eq_false_iff]; intro h; have := okT_iff.1 h; simp only at this; omega
    rw [e]
    clear e
    go_enter Tryd.func28, Tryd.ntmps28
    go_wp2_with fail
    go_ret
    exact ⟨rfl, HB.out⟩
  by_cases h3 : 1000000 < ev
  · have e : okT ⟨id, by_, ev, la, ji⟩ = false := by
      rw [Bool.eq_false_iff]; intro h; have := okT_iff.1 h; simp only at this; omega
    rw [e]
    clear e
    go_enter Tryd.func28, Tryd.ntmps28
    go_wp2_with fail
    go_ret
    exact ⟨rfl, HB.out⟩
  by_cases h4 : la < 0
  · have e : okT ⟨id, by_, ev, la, ji⟩ = false := by
      rw [Bool.eq_false_iff]; intro h; have := okT_iff.1 h; simp only at this; omega
    rw [e]
    clear e
    go_enter Tryd.func28, Tryd.ntmps28
    go_wp2_with fail
    go_ret
    exact ⟨rfl, HB.out⟩
  by_cases h5 : 1000000 < la
  · have e : okT ⟨id, by_, ev, la, ji⟩ = false := by
      rw [Bool.eq_false_iff]; intro h; have := okT_iff.1 h; simp only at this; omega
    rw [e]
    clear e
    go_enter Tryd.func28, Tryd.ntmps28
    go_wp2_with fail
    go_ret
    exact ⟨rfl, HB.out⟩
  by_cases h6 : ji < 0
  · have e : okT ⟨id, by_, ev, la, ji⟩ = false := by
      rw [Bool.eq_false_iff]; intro h; have := okT_iff.1 h; simp only at this; omega
    rw [e]
    clear e
    go_enter Tryd.func28, Tryd.ntmps28
    go_wp2_with fail
    go_ret
    exact ⟨rfl, HB.out⟩
  by_cases h7 : ev ≤ ji
  · have e : okT ⟨id, by_, ev, la, ji⟩ = false := by
      rw [Bool.eq_false_iff]; intro h; have := okT_iff.1 h; simp only at this; omega
    rw [e]
    clear e
    go_enter Tryd.func28, Tryd.ntmps28
    go_wp2_with fail
    go_ret
    exact ⟨rfl, HB.out⟩
  by_cases h8 : by_ < 0
  · have e : okT ⟨id, by_, ev, la, ji⟩ = false := by
      rw [Bool.eq_false_iff]; intro h; have := okT_iff.1 h; simp only at this; omega
    rw [e]
    clear e
    go_enter Tryd.func28, Tryd.ntmps28
    go_wp2_with fail
    go_ret
    exact ⟨rfl, HB.out⟩
  by_cases h9 : 8 < by_
  · have e : okT ⟨id, by_, ev, la, ji⟩ = false := by
      rw [Bool.eq_false_iff]; intro h; have := okT_iff.1 h; simp only at this; omega
    rw [e]
    clear e
    go_enter Tryd.func28, Tryd.ntmps28
    go_wp2_with fail
    go_ret
    exact ⟨rfl, HB.out⟩
  have e : okT ⟨id, by_, ev, la, ji⟩ = true := okT_iff.2 (by simp only; omega)
  rw [e]
  clear e
  go_enter Tryd.func28, Tryd.ntmps28
  go_wp2_with fail
  go_ret
  exact ⟨rfl, HB.out⟩
end Bw
end Go.Proofs.YtnhnemmddgofnaaDoor
