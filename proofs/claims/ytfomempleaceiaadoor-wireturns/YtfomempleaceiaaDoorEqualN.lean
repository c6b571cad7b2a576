/- What slices.Equal answers of two slices that hold the same numbers: true. -/
import Derived.Test.YtfomempleaceiaaDoorW1
namespace Go.Proofs.YtfomempleaceiaaDoor
open Go.ChangeShapes Go.WideShapes Go.ChangeAt Go.RowKit
namespace Bw
open Bm
set_option maxHeartbeats 1000000 in
theorem equalN_true (w : World) (g h n c d : Nat) (xs : List Int) (hx : xs.length = n) (hn : n ≤ 1000) (ha : NumsAt w g 0 xs) (hb : NumsAt w h 0 xs) :
    Calls Tryd.prog 19 #[.slice (some ⟨g, 0, none⟩) n c, .slice (some ⟨h, 0, none⟩) n d] w fun e w' => e = .returned (.bool true) ∧ Below w.heap.size w w' := by
  have HA := Hid.mk ha
  have HB := Hid.mk hb
  have HX := Hid.mk hx
  clear ha hb hx
  go_enter Tryd.func19, Tryd.ntmps19
  go_wp2
  go_loopw [13] (fun i w' => ∃ k : Nat, k ≤ n ∧ i = .int .i64 k ∧ ∃ m, w' = w.drewN m) (fun i _ => n - (intOf i).toNat)
  case atStart => exact ⟨0, Nat.zero_le _, rfl, 0, rfl⟩
  case round =>
    obtain ⟨k, hk, rfl, m, rfl⟩ := hrel
    by_cases hlt : k < n
    · have g1 := HA.out k (by rw [HX.out]; exact hlt)
      have g2 := HB.out k (by rw [HX.out]; exact hlt)
      simp only [Nat.zero_add] at g1 g2
      generalize xs.getD k 0 = y at *
      have hlt' : (k : Int) < (n : Int) := by omega
      go_wp2
      go_quiet (fail)
      go_wp2
      go_roundw
      case rel => exact ⟨k + 1, by omega, by go_num, _, rfl⟩
      case measure => simp [intOf]; omega
    · go_wp2
      go_ret
      exact ⟨rfl, ⟨rfl, rfl, rfl, Nat.le_refl _, fun _ _ => rfl⟩⟩
end Bw
end Go.Proofs.YtfomempleaceiaaDoor
