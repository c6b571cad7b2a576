/- Plain facts on which frames are right, as the walk of CheckFrame asks for them. -/
import Derived.Test.YtemohjamcdkcmaaGreatDoorRefSizes
import Derived.Test.YtemohjamcdkcmaaGreatDoorC13
namespace Go.Proofs.YtemohjamcdkcmaaGreatDoor
open Go.ChangeShapes Go.WideShapes Go.ChangeAt Go.RowKit
namespace Bw
open Bm Cm

theorem ret_int {c x : Int} (h : c = x) : Ending.returned (.int .i64 c) = .returned (.int .i64 x) := by rw [h]
section
variable {id sz : Int} {lo fa re : Bool} {n : Nat}
theorem fr3a (h : id < 0 ∨ topI lo < id) : 3 = frEn id lo fa re sz n := by unfold frEn; rw [if_pos h]
theorem fr4a (h : ¬ (id < 0 ∨ topI lo < id)) (h2 : re = true ∧ (fa = true ∨ n ≠ 0)) : 4 = frEn id lo fa re sz n := by unfold frEn; rw [if_neg h, if_pos h2]
theorem fr3b (h : ¬ (id < 0 ∨ topI lo < id)) (h2 : ¬ (re = true ∧ (fa = true ∨ n ≠ 0))) (h3 : sz < 0 ∨ 8 < sz ∨ (0 < sz ∧ re = false)) : 3 = frEn id lo fa re sz n := by
  unfold frEn; rw [if_neg h, if_neg h2, if_pos h3]
theorem fr2 (h : ¬ (id < 0 ∨ topI lo < id)) (h2 : ¬ (re = true ∧ (fa = true ∨ n ≠ 0))) (h3 : ¬ (sz < 0 ∨ 8 < sz ∨ (0 < sz ∧ re = false))) (h4 : 64 < n ∨ (8 < n ∧ fa = false)) : 2 = frEn id lo fa re sz n := by
  unfold frEn; rw [if_neg h, if_neg h2, if_neg h3, if_pos h4]
theorem fr4b (h : ¬ (id < 0 ∨ topI lo < id)) (h2 : ¬ (re = true ∧ (fa = true ∨ n ≠ 0))) (h3 : ¬ (sz < 0 ∨ 8 < sz ∨ (0 < sz ∧ re = false))) (h4 : ¬ (64 < n ∨ (8 < n ∧ fa = false))) (h5 : n ∉ sizesL) : 4 = frEn id lo fa re sz n := by
  unfold frEn; rw [if_neg h, if_neg h2, if_neg h3, if_neg h4, if_neg h5]
theorem fr0 (h : ¬ (id < 0 ∨ topI lo < id)) (h2 : ¬ (re = true ∧ (fa = true ∨ n ≠ 0))) (h3 : ¬ (sz < 0 ∨ 8 < sz ∨ (0 < sz ∧ re = false))) (h4 : ¬ (64 < n ∨ (8 < n ∧ fa = false))) (h5 : n ∈ sizesL) : 0 = frEn id lo fa re sz n := by
  unfold frEn; rw [if_neg h, if_neg h2, if_neg h3, if_neg h4, if_pos h5]
end
theorem mem_sizes (n : Nat) : decide ((n : Int) ∈ sizesI) = decide (n ∈ sizesL) := by
  rw [Bool.eq_iff_iff, decide_eq_true_iff, decide_eq_true_iff, sizesI, List.mem_map]
  constructor
  · rintro ⟨m, hm, e⟩
    have : m = n := by omega
    rwa [← this]
  · intro h; exact ⟨n, h, rfl⟩

end Bw
end Go.Proofs.YtemohjamcdkcmaaGreatDoor
