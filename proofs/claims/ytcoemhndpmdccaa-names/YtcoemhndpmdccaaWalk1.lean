/- It is proved, for the law Names: what the call of slices.Equal returns over two rows of numbers that are alike, and that the whole walk returns true; no conditions but those that each theorem states. -/
import Derived.Test.YtcoemhndpmdccaaRows
import Derived.WalkKit
import Derived.ProofKit
import Derived.Deep.QuietTactic
import Derived.BigQuiet
namespace Go.Proofs.Ytcoemhndpmdccaa.names
open Go.ChangeShapes Go.WideShapes Go.ChangeAt Go.RowKit

set_option maxHeartbeats 400000 in
theorem equal_true (w : World) (b1 b2 n c1 c2 : Nat) (f : Nat → Int) (hn : n ≤ 100)
    (h1 : ∀ k, k < n → w.cell? ⟨b1, k, none⟩ = some (.int .i64 (f k)))
    (h2 : ∀ k, k < n → w.cell? ⟨b2, k, none⟩ = some (.int .i64 (f k))) :
    Calls Try.prog 4 #[.slice (some ⟨b1, 0, none⟩) n c1, .slice (some ⟨b2, 0, none⟩) n c2] w fun e w' => e = .returned (.bool true) ∧ ∃ m, w' = w.drewN m := by
  have H1 : Hid (∀ k, k < n → w.cell? ⟨b1, k, none⟩ = some (.int .i64 (f k))) := h1
  have H2 : Hid (∀ k, k < n → w.cell? ⟨b2, k, none⟩ = some (.int .i64 (f k))) := h2
  clear h1 h2
  go_enter Try.func4, Try.ntmps4
  go_wp2
  go_loopw [13] (fun i w' => ∃ k : Nat, k ≤ n ∧ i = .int .i64 k ∧ ∃ m, w' = w.drewN m) (fun i _ => n - (intOf i).toNat)
  case atStart => exact ⟨0, Nat.zero_le _, rfl, 0, rfl⟩
  case round =>
    obtain ⟨k, hk, rfl, m, rfl⟩ := hrel
    by_cases hlt : k < n
    · have g1 := H1.out k hlt
      have g2 := H2.out k hlt
      have hlt' : (k : Int) < (n : Int) := by omega
      go_wp2
      go_quiet (fail)
      go_wp2
      go_roundw
      case rel => exact ⟨k + 1, by omega, by go_num, _, rfl⟩
      case measure => simp [intOf]; omega
    · go_wp2
      go_ret
      exact ⟨rfl, _, rfl⟩

def lims : List Int := [1000, 64, 2047, 536870911, 16, 20, 4000, 16, 16, 16, 300, 60, 20, 4, 6, 1000000, 100]
def kinds : List Int := [0, 1, 2, 1, 2, 3, 4, 5, 6, 0, 1, 2, 3, 4, 1, 2, 3, 4, 5]
theorem row_at (L : List Int) (k : Nat) (h : k < L.length) : (L.map (Value.int .i64))[k]'(by simpa using h) = .int .i64 (L[k]?.getD 0) := by
  simp [h]
set_option maxHeartbeats 1000000 in
theorem walk  (w : World) :
    Calls Try.prog 3 #[] w fun e w' => e = .returned (.bool true) ∧ Grown w w' := by
  go_enter Try.func3, Try.ntmps3
  go_wp2
  go_loop [9] (fun i => ∃ k : Nat, k ≤ 15 ∧ i = .int .i64 k) (fun i => 15 - (intOf i).toNat)
  case atStart => exact ⟨0, by omega, rfl⟩
  case round =>
    obtain ⟨k, hk, rfl⟩ := hrel
    by_cases hlt : k < 15
    · have hh : k = 0 ∨ k = 1 ∨ k = 2 ∨ k = 3 ∨ k = 4 ∨ k = 5 ∨ k = 6 ∨ k = 7 ∨ k = 8 ∨ k = 9 ∨ k = 10 ∨ k = 11 ∨ k = 12 ∨ k = 13 ∨ k = 14 := by omega
      clear hlt hk
      rcases hh with rfl | rfl | rfl | rfl | rfl | rfl | rfl | rfl | rfl | rfl | rfl | rfl | rfl | rfl | rfl
      all_goals
        go_wp2
        go_round
        case rel => first | exact ⟨1, by omega, by go_num⟩ | exact ⟨2, by omega, by go_num⟩ | exact ⟨3, by omega, by go_num⟩ | exact ⟨4, by omega, by go_num⟩ | exact ⟨5, by omega, by go_num⟩ | exact ⟨6, by omega, by go_num⟩ | exact ⟨7, by omega, by go_num⟩ | exact ⟨8, by omega, by go_num⟩ | exact ⟨9, by omega, by go_num⟩ | exact ⟨10, by omega, by go_num⟩ | exact ⟨11, by omega, by go_num⟩ | exact ⟨12, by omega, by go_num⟩ | exact ⟨13, by omega, by go_num⟩ | exact ⟨14, by omega, by go_num⟩ | exact ⟨15, by omega, by go_num⟩
        case measure => simp [intOf]
    · go_wp2_with fail
      refine (equal_true _ _ _ 17 _ _ (fun k => lims.getD k 0) (by omega) ?_ ?_).mono ?_
      · intro k h; go_simp; exact row_at lims k h
      · intro k h; go_simp; exact row_at lims k h
      rintro e w' ⟨rfl, m, rfl⟩
      go_wp2_with fail
      refine (equal_true _ _ _ 19 _ _ (fun k => kinds.getD k 0) (by omega) ?_ ?_).mono ?_
      · intro k h; go_simp; exact row_at kinds k h
      · intro k h; go_simp; exact row_at kinds k h
      rintro e w' ⟨rfl, m, rfl⟩
      go_wp2_with fail
      go_ret
      exact ⟨rfl, by repeat (first | exact Grown.refl _ | apply Grown.drew | apply Grown.alloc)⟩
end Go.Proofs.Ytcoemhndpmdccaa.names
