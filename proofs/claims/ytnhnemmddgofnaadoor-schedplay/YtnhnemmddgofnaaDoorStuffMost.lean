/- What stuff.Most answers of any number. -/
import Derived.Test.YtnhnemmddgofnaaDoorC5
namespace Go.Proofs.YtnhnemmddgofnaaDoor
open Go.ChangeShapes Go.WideShapes Go.ChangeAt Go.RowKit
namespace Bw
open Bm

set_option maxHeartbeats 1000000 in
theorem most_bad (n : Int) (w : World) (h : n < 0 ∨ 1000 < n) :
    Calls Tryd.prog 52 #[.int .i64 n] w fun e w' => e = .returned (.tuple #[.int .i64 0, .int .i64 3]) ∧ w' = w := by
  have HN := Hid.mk h
  clear h
  go_enter Tryd.func52, Tryd.ntmps52
  go_wp2_with fail
  refine (isLength_no n w HN.out).mono ?_
  rintro e w1 ⟨rfl, hw1⟩
  subst hw1
  go_wp2_with fail
  go_ret2
  exact ⟨rfl, rfl⟩

set_option maxHeartbeats 1000000 in
theorem most_zero (w : World) :
    Calls Tryd.prog 52 #[.int .i64 0] w fun e w' => e = .returned (.tuple #[.int .i64 0, .int .i64 0]) ∧ w' = w := by
  go_enter Tryd.func52, Tryd.ntmps52
  go_wp2_with fail
  refine (isLength_yes 0 w (by omega) (by omega)).mono ?_
  rintro e w1 ⟨rfl, hw1⟩
  subst hw1
  go_wp2_with fail
  go_ret2
  exact ⟨rfl, rfl⟩

theorem quo4 (n : Nat) (h : 1 ≤ n) : (n : Int) + ((n : Int) - 1) / 4 = ((n + (n - 1) / 4 : Nat) : Int) := by omega

set_option maxHeartbeats 1000000 in
theorem most_pos (n : Nat) (w : World) (h : 1 ≤ n) (hn : n ≤ 1000) :
    Calls Tryd.prog 52 #[.int .i64 n] w fun e w' => e = .returned (.tuple #[.int .i64 (n + (n - 1) / 4 : Nat), .int .i64 0]) ∧ w' = w := by
  have h0 : ((n : Int) == 0) = false := by rw [beq_eq_false_iff_ne]; omega
  have h1 : (1 : Int) ≤ (n : Int) := by omega
  have h2 : (n : Int) ≤ 1000 := by omega
  have hq := quo4 n h
  have HQ := Hid.mk hq
  clear hq h
  go_enter Tryd.func52, Tryd.ntmps52
  go_wp2_with fail
  refine (isLength_yes n w (by omega) (by omega)).mono ?_
  rintro e w1 ⟨rfl, hw1⟩
  subst hw1
  go_wp2_with fail
  go_ret2
  refine ⟨?_, rfl⟩
  rw [← HQ.out]
  rfl

theorem most_any (n : Nat) (w : World) (hn : n ≤ 1000) :
    Calls Tryd.prog 52 #[.int .i64 n] w fun e w' => e = .returned (.tuple #[.int .i64 (n + (n - 1) / 4 : Nat), .int .i64 0]) ∧ w' = w := by
  by_cases h : n = 0
  · subst h; exact most_zero w
  · exact most_pos n w (by omega) hn
end Bw
end Go.Proofs.YtnhnemmddgofnaaDoor
