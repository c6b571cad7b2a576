/- The law's own checkSender. -/
import Derived.Test.YtgjnfmbmndnihaaPtLawA
namespace Go.Proofs.Ytgjnfmbmndnihaa
open Go.ChangeShapes Go.WideShapes Go.ChangeAt Go.RowKit
namespace Bw
open Bm
set_option linter.unusedVariables false
set_option maxHeartbeats 4000000 in
set_option maxRecDepth 100000 in
theorem lc_many (a : Option Addr) (cap : Nat) (n : Nat) (k next left : Int) (done : Bool) (w : World) (hl : n ≤ maxLen) (h3 : 300 < n) :
    Calls Try.prog 19 #[sdV a n cap k next left done] w fun e w' => e = .returned (.int .i64 2) ∧ Below w.heap.size w w' := by
  have HB := Hid.mk (awG w (sdC a n cap k next left done))
  have HR := Hid.mk (Row5.new w 28 (.slice a n cap) (.int .i64 k) (.int .i64 next) (.int .i64 left) (.bool done))
  unfold sdC at HB
  unfold maxLen at hl
  have h3' : (300 : Int) < (n : Int) := by omega
  unfold sdV
  go_enter Try.func19, Try.ntmps19
  go_wp2_with fail
  go_ret
  exact ⟨rfl, HB.out⟩
set_option maxHeartbeats 4000000 in
set_option maxRecDepth 100000 in
theorem lc_none (a : Option Addr) (cap : Nat) (k next left : Int) (done : Bool) (w : World) (hl : 0 ≤ maxLen)  :
    Calls Try.prog 19 #[sdV a 0 cap k next left done] w fun e w' => e = .returned (.int .i64 3) ∧ Below w.heap.size w w' := by
  have HB := Hid.mk (awG w (sdC a 0 cap k next left done))
  have HR := Hid.mk (Row5.new w 28 (.slice a 0 cap) (.int .i64 k) (.int .i64 next) (.int .i64 left) (.bool done))
  unfold sdC at HB
  unfold maxLen at hl
  unfold sdV
  go_enter Try.func19, Try.ntmps19
  go_wp2_with fail
  go_ret
  exact ⟨rfl, HB.out⟩
set_option maxHeartbeats 4000000 in
set_option maxRecDepth 100000 in
theorem lc_klow (a : Option Addr) (cap : Nat) (n : Nat) (k next left : Int) (done : Bool) (w : World) (hl : n ≤ maxLen) (h3 : n ≤ 300) (h0 : 1 ≤ n) (c1 : k < 0) :
    Calls Try.prog 19 #[sdV a n cap k next left done] w fun e w' => e = .returned (.int .i64 3) ∧ Below w.heap.size w w' := by
  have HB := Hid.mk (awG w (sdC a n cap k next left done))
  have HR := Hid.mk (Row5.new w 28 (.slice a n cap) (.int .i64 k) (.int .i64 next) (.int .i64 left) (.bool done))
  unfold sdC at HB
  unfold maxLen at hl
  have h3' : ¬ ((300 : Int) < (n : Int)) := by omega
  have h0' : ((n : Int) == 0) = false := by simp; omega
  clear h0
  unfold sdV
  go_enter Try.func19, Try.ntmps19
  go_wp2_with fail
  go_ret
  exact ⟨rfl, HB.out⟩
set_option maxHeartbeats 4000000 in
set_option maxRecDepth 100000 in
theorem lc_khigh (a : Option Addr) (cap : Nat) (n : Nat) (k next left : Int) (done : Bool) (w : World) (hl : n ≤ maxLen) (h3 : n ≤ 300) (h0 : 1 ≤ n) (b1 : 0 ≤ k) (c2 : (n : Int) < k) :
    Calls Try.prog 19 #[sdV a n cap k next left done] w fun e w' => e = .returned (.int .i64 3) ∧ Below w.heap.size w w' := by
  have HB := Hid.mk (awG w (sdC a n cap k next left done))
  have HR := Hid.mk (Row5.new w 28 (.slice a n cap) (.int .i64 k) (.int .i64 next) (.int .i64 left) (.bool done))
  unfold sdC at HB
  unfold maxLen at hl
  have h3' : ¬ ((300 : Int) < (n : Int)) := by omega
  have h0' : ((n : Int) == 0) = false := by simp; omega
  have g1 : ¬ (k < 0) := by omega
  clear h0 b1
  unfold sdV
  go_enter Try.func19, Try.ntmps19
  go_wp2_with fail
  go_ret
  exact ⟨rfl, HB.out⟩
set_option maxHeartbeats 4000000 in
set_option maxRecDepth 100000 in
theorem lc_llow (a : Option Addr) (cap : Nat) (n : Nat) (k next left : Int) (done : Bool) (w : World) (hl : n ≤ maxLen) (h3 : n ≤ 300) (h0 : 1 ≤ n) (b1 : 0 ≤ k) (b2 : k ≤ (n : Int)) (c3 : left < -1) :
    Calls Try.prog 19 #[sdV a n cap k next left done] w fun e w' => e = .returned (.int .i64 3) ∧ Below w.heap.size w w' := by
  have HB := Hid.mk (awG w (sdC a n cap k next left done))
  have HR := Hid.mk (Row5.new w 28 (.slice a n cap) (.int .i64 k) (.int .i64 next) (.int .i64 left) (.bool done))
  unfold sdC at HB
  unfold maxLen at hl
  have h3' : ¬ ((300 : Int) < (n : Int)) := by omega
  have h0' : ((n : Int) == 0) = false := by simp; omega
  have g1 : ¬ (k < 0) := by omega
  have g2 : ¬ ((n : Int) < k) := by omega
  clear h0 b1 b2
  unfold sdV
  go_enter Try.func19, Try.ntmps19
  go_wp2_with fail
  go_ret
  exact ⟨rfl, HB.out⟩
set_option maxHeartbeats 4000000 in
set_option maxRecDepth 100000 in
theorem lc_lhigh (a : Option Addr) (cap : Nat) (n : Nat) (k next left : Int) (done : Bool) (w : World) (hl : n ≤ maxLen) (h3 : n ≤ 300) (h0 : 1 ≤ n) (b1 : 0 ≤ k) (b2 : k ≤ (n : Int)) (b3 : -1 ≤ left) (c4 : 255 < left) :
    Calls Try.prog 19 #[sdV a n cap k next left done] w fun e w' => e = .returned (.int .i64 3) ∧ Below w.heap.size w w' := by
  have HB := Hid.mk (awG w (sdC a n cap k next left done))
  have HR := Hid.mk (Row5.new w 28 (.slice a n cap) (.int .i64 k) (.int .i64 next) (.int .i64 left) (.bool done))
  unfold sdC at HB
  unfold maxLen at hl
  have h3' : ¬ ((300 : Int) < (n : Int)) := by omega
  have h0' : ((n : Int) == 0) = false := by simp; omega
  have g1 : ¬ (k < 0) := by omega
  have g2 : ¬ ((n : Int) < k) := by omega
  have g3 : ¬ (left < -1) := by omega
  clear h0 b1 b2 b3
  unfold sdV
  go_enter Try.func19, Try.ntmps19
  go_wp2_with fail
  go_ret
  exact ⟨rfl, HB.out⟩
set_option maxHeartbeats 4000000 in
set_option maxRecDepth 100000 in
theorem lc_xlow (a : Option Addr) (cap : Nat) (n : Nat) (k next left : Int) (done : Bool) (w : World) (hl : n ≤ maxLen) (h3 : n ≤ 300) (h0 : 1 ≤ n) (b1 : 0 ≤ k) (b2 : k ≤ (n : Int)) (b3 : -1 ≤ left) (b4 : left ≤ 255) (c5 : next < 0) :
    Calls Try.prog 19 #[sdV a n cap k next left done] w fun e w' => e = .returned (.int .i64 3) ∧ Below w.heap.size w w' := by
  have HB := Hid.mk (awG w (sdC a n cap k next left done))
  have HR := Hid.mk (Row5.new w 28 (.slice a n cap) (.int .i64 k) (.int .i64 next) (.int .i64 left) (.bool done))
  unfold sdC at HB
  unfold maxLen at hl
  have h3' : ¬ ((300 : Int) < (n : Int)) := by omega
  have h0' : ((n : Int) == 0) = false := by simp; omega
  have g1 : ¬ (k < 0) := by omega
  have g2 : ¬ ((n : Int) < k) := by omega
  have g3 : ¬ (left < -1) := by omega
  have g4 : ¬ (255 < left) := by omega
  clear h0 b1 b2 b3 b4
  unfold sdV
  go_enter Try.func19, Try.ntmps19
  go_wp2_with fail
  go_ret
  exact ⟨rfl, HB.out⟩
set_option maxHeartbeats 4000000 in
set_option maxRecDepth 100000 in
theorem lc_xhigh (a : Option Addr) (cap : Nat) (n : Nat) (k next left : Int) (done : Bool) (w : World) (hl : n ≤ maxLen) (h3 : n ≤ 300) (h0 : 1 ≤ n) (b1 : 0 ≤ k) (b2 : k ≤ (n : Int)) (b3 : -1 ≤ left) (b4 : left ≤ 255) (b5 : 0 ≤ next) (c6 : 15 < next) :
    Calls Try.prog 19 #[sdV a n cap k next left done] w fun e w' => e = .returned (.int .i64 3) ∧ Below w.heap.size w w' := by
  have HB := Hid.mk (awG w (sdC a n cap k next left done))
  have HR := Hid.mk (Row5.new w 28 (.slice a n cap) (.int .i64 k) (.int .i64 next) (.int .i64 left) (.bool done))
  unfold sdC at HB
  unfold maxLen at hl
  have h3' : ¬ ((300 : Int) < (n : Int)) := by omega
  have h0' : ((n : Int) == 0) = false := by simp; omega
  have g1 : ¬ (k < 0) := by omega
  have g2 : ¬ ((n : Int) < k) := by omega
  have g3 : ¬ (left < -1) := by omega
  have g4 : ¬ (255 < left) := by omega
  have g5 : ¬ (next < 0) := by omega
  clear h0 b1 b2 b3 b4 b5
  unfold sdV
  go_enter Try.func19, Try.ntmps19
  go_wp2_with fail
  go_ret
  exact ⟨rfl, HB.out⟩
set_option maxHeartbeats 4000000 in
set_option maxRecDepth 100000 in
theorem lc_all_not (a : Option Addr) (cap : Nat) (n k : Nat) (next left : Int) (w : World) (hl : n ≤ maxLen) (h3 : n ≤ 300) (h0 : 1 ≤ n) (b1 : k ≤ n) (b3 : -1 ≤ left) (b4 : left ≤ 255) (b5 : 0 ≤ next) (b6 : next ≤ 15) (hkn : k = n) :
    Calls Try.prog 19 #[sdV a n cap (k : Int) next left false] w fun e w' => e = .returned (.int .i64 4) ∧ Below w.heap.size w w' := by
  have HB := Hid.mk (awG w (sdC a n cap (k : Int) next left false))
  have HR := Hid.mk (Row5.new w 28 (.slice a n cap) (.int .i64 (k : Int)) (.int .i64 next) (.int .i64 left) (.bool false))
  unfold sdC at HB
  unfold maxLen at hl
  have h3' : ¬ ((300 : Int) < (n : Int)) := by omega
  have h0' : ((n : Int) == 0) = false := by simp; omega
  have g1 : ¬ ((k : Int) < 0) := by omega
  have g2 : ¬ ((n : Int) < (k : Int)) := by omega
  have g3 : ¬ (left < -1) := by omega
  have g4 : ¬ (255 < left) := by omega
  have g5 : ¬ (next < 0) := by omega
  have g6 : ¬ (15 < next) := by omega
  have e1 : ((k : Int) == (n : Int)) = true := by simp; omega
  clear b1 hkn
  clear h0 b3 b4 b5 b6
  unfold sdV
  go_enter Try.func19, Try.ntmps19
  go_wp2_with fail
  go_ret
  exact ⟨rfl, HB.out⟩
set_option maxHeartbeats 4000000 in
set_option maxRecDepth 100000 in
theorem lc_part_done (a : Option Addr) (cap : Nat) (n k : Nat) (next left : Int) (w : World) (hl : n ≤ maxLen) (h3 : n ≤ 300) (h0 : 1 ≤ n) (b1 : k ≤ n) (b3 : -1 ≤ left) (b4 : left ≤ 255) (b5 : 0 ≤ next) (b6 : next ≤ 15) (hkn : k < n) :
    Calls Try.prog 19 #[sdV a n cap (k : Int) next left true] w fun e w' => e = .returned (.int .i64 4) ∧ Below w.heap.size w w' := by
  have HB := Hid.mk (awG w (sdC a n cap (k : Int) next left true))
  have HR := Hid.mk (Row5.new w 28 (.slice a n cap) (.int .i64 (k : Int)) (.int .i64 next) (.int .i64 left) (.bool true))
  unfold sdC at HB
  unfold maxLen at hl
  have h3' : ¬ ((300 : Int) < (n : Int)) := by omega
  have h0' : ((n : Int) == 0) = false := by simp; omega
  have g1 : ¬ ((k : Int) < 0) := by omega
  have g2 : ¬ ((n : Int) < (k : Int)) := by omega
  have g3 : ¬ (left < -1) := by omega
  have g4 : ¬ (255 < left) := by omega
  have g5 : ¬ (next < 0) := by omega
  have g6 : ¬ (15 < next) := by omega
  have e1 : ((k : Int) == (n : Int)) = false := by simp; omega
  clear b1 hkn
  clear h0 b3 b4 b5 b6
  unfold sdV
  go_enter Try.func19, Try.ntmps19
  go_wp2_with fail
  go_ret
  exact ⟨rfl, HB.out⟩
set_option maxHeartbeats 4000000 in
set_option maxRecDepth 100000 in
theorem lc_all_left (a : Option Addr) (cap : Nat) (n k : Nat) (next left : Int) (w : World) (hl : n ≤ maxLen) (h3 : n ≤ 300) (h0 : 1 ≤ n) (b1 : k ≤ n) (b3 : -1 ≤ left) (b4 : left ≤ 255) (b5 : 0 ≤ next) (b6 : next ≤ 15) (hkn : k = n) (hlf : left ≠ 0) :
    Calls Try.prog 19 #[sdV a n cap (k : Int) next left true] w fun e w' => e = .returned (.int .i64 4) ∧ Below w.heap.size w w' := by
  have HB := Hid.mk (awG w (sdC a n cap (k : Int) next left true))
  have HR := Hid.mk (Row5.new w 28 (.slice a n cap) (.int .i64 (k : Int)) (.int .i64 next) (.int .i64 left) (.bool true))
  unfold sdC at HB
  unfold maxLen at hl
  have h3' : ¬ ((300 : Int) < (n : Int)) := by omega
  have h0' : ((n : Int) == 0) = false := by simp; omega
  have g1 : ¬ ((k : Int) < 0) := by omega
  have g2 : ¬ ((n : Int) < (k : Int)) := by omega
  have g3 : ¬ (left < -1) := by omega
  have g4 : ¬ (255 < left) := by omega
  have g5 : ¬ (next < 0) := by omega
  have g6 : ¬ (15 < next) := by omega
  have e1 : ((k : Int) == (n : Int)) = true := by simp; omega
  have e2 : (left != 0) = true := by simpa using hlf
  clear b1 hkn hlf
  clear h0 b3 b4 b5 b6
  unfold sdV
  go_enter Try.func19, Try.ntmps19
  go_wp2_with fail
  go_ret
  exact ⟨rfl, HB.out⟩
set_option maxHeartbeats 4000000 in
set_option maxRecDepth 100000 in
theorem lc_one_next (a : Option Addr) (cap : Nat) (n k : Nat) (next : Int) (w : World) (hl : n ≤ maxLen) (h3 : n ≤ 300) (h0 : 1 ≤ n) (b1 : k ≤ n) (b3 : -1 ≤ 0) (b4 : 0 ≤ 255) (b5 : 0 ≤ next) (b6 : next ≤ 15) (hkn : k = n) (h7 : n ≤ 7) (hx : next ≠ 1) :
    Calls Try.prog 19 #[sdV a n cap (k : Int) next 0 true] w fun e w' => e = .returned (.int .i64 4) ∧ Below w.heap.size w w' := by
  have HB := Hid.mk (awG w (sdC a n cap (k : Int) next 0 true))
  have HR := Hid.mk (Row5.new w 28 (.slice a n cap) (.int .i64 (k : Int)) (.int .i64 next) (.int .i64 0) (.bool true))
  unfold sdC at HB
  unfold maxLen at hl
  have h3' : ¬ ((300 : Int) < (n : Int)) := by omega
  have h0' : ((n : Int) == 0) = false := by simp; omega
  have g1 : ¬ ((k : Int) < 0) := by omega
  have g2 : ¬ ((n : Int) < (k : Int)) := by omega
  have g3 : ¬ (0 < -1) := by omega
  have g4 : ¬ (255 < 0) := by omega
  have g5 : ¬ (next < 0) := by omega
  have g6 : ¬ (15 < next) := by omega
  have e1 : ((k : Int) == (n : Int)) = true := by simp; omega
  have e3 : (n : Int) ≤ 7 := by omega
  have e4 : (next != 1) = true := by simpa using hx
  clear b1 hkn h7 hx
  clear h0 b3 b4 b5 b6
  unfold sdV
  go_enter Try.func19, Try.ntmps19
  go_wp2_with fail
  go_ret
  exact ⟨rfl, HB.out⟩
set_option maxHeartbeats 4000000 in
set_option maxRecDepth 100000 in
theorem lc_one_ok (a : Option Addr) (cap : Nat) (n k : Nat) (w : World) (hl : n ≤ maxLen) (h3 : n ≤ 300) (h0 : 1 ≤ n) (b1 : k ≤ n) (b3 : -1 ≤ 0) (b4 : 0 ≤ 255) (b5 : 0 ≤ 1) (b6 : 1 ≤ 15) (hkn : k = n) (h7 : n ≤ 7) :
    Calls Try.prog 19 #[sdV a n cap (k : Int) 1 0 true] w fun e w' => e = .returned (.int .i64 0) ∧ Below w.heap.size w w' := by
  have HB := Hid.mk (awG w (sdC a n cap (k : Int) 1 0 true))
  have HR := Hid.mk (Row5.new w 28 (.slice a n cap) (.int .i64 (k : Int)) (.int .i64 1) (.int .i64 0) (.bool true))
  unfold sdC at HB
  unfold maxLen at hl
  have h3' : ¬ ((300 : Int) < (n : Int)) := by omega
  have h0' : ((n : Int) == 0) = false := by simp; omega
  have g1 : ¬ ((k : Int) < 0) := by omega
  have g2 : ¬ ((n : Int) < (k : Int)) := by omega
  have g3 : ¬ (0 < -1) := by omega
  have g4 : ¬ (255 < 0) := by omega
  have g5 : ¬ (1 < 0) := by omega
  have g6 : ¬ (15 < 1) := by omega
  have e1 : ((k : Int) == (n : Int)) = true := by simp; omega
  have e3 : (n : Int) ≤ 7 := by omega
  clear b1 hkn h7
  clear h0 b3 b4 b5 b6
  unfold sdV
  go_enter Try.func19, Try.ntmps19
  go_wp2_with fail
  go_ret
  exact ⟨rfl, HB.out⟩
set_option maxHeartbeats 4000000 in
set_option maxRecDepth 100000 in
theorem lc_few (a : Option Addr) (cap : Nat) (n k : Nat) (next left : Int) (w : World) (hl : n ≤ maxLen) (h3 : n ≤ 300) (h0 : 1 ≤ n) (b1 : k ≤ n) (b3 : -1 ≤ left) (b4 : left ≤ 255) (b5 : 0 ≤ next) (b6 : next ≤ 15) (hkn : k < n) (h7 : n ≤ 7) :
    Calls Try.prog 19 #[sdV a n cap (k : Int) next left false] w fun e w' => e = .returned (.int .i64 4) ∧ Below w.heap.size w w' := by
  have HB := Hid.mk (awG w (sdC a n cap (k : Int) next left false))
  have HR := Hid.mk (Row5.new w 28 (.slice a n cap) (.int .i64 (k : Int)) (.int .i64 next) (.int .i64 left) (.bool false))
  unfold sdC at HB
  unfold maxLen at hl
  have h3' : ¬ ((300 : Int) < (n : Int)) := by omega
  have h0' : ((n : Int) == 0) = false := by simp; omega
  have g1 : ¬ ((k : Int) < 0) := by omega
  have g2 : ¬ ((n : Int) < (k : Int)) := by omega
  have g3 : ¬ (left < -1) := by omega
  have g4 : ¬ (255 < left) := by omega
  have g5 : ¬ (next < 0) := by omega
  have g6 : ¬ (15 < next) := by omega
  have e1 : ((k : Int) == (n : Int)) = false := by simp; omega
  have e3 : (n : Int) ≤ 7 := by omega
  clear b1 hkn h7
  clear h0 b3 b4 b5 b6
  unfold sdV
  go_enter Try.func19, Try.ntmps19
  go_wp2_with fail
  go_ret
  exact ⟨rfl, HB.out⟩
set_option maxHeartbeats 4000000 in
set_option maxRecDepth 100000 in
theorem lc_loop_all (a : Option Addr) (cap : Nat) (n k : Nat) (next : Int) (R : Int) (w : World) (hl : n ≤ maxLen) (h3 : n ≤ 300) (h0 : 1 ≤ n) (b1 : k ≤ n) (b3 : -1 ≤ 0) (b4 : 0 ≤ 255) (b5 : 0 ≤ next) (b6 : next ≤ 15) (hkn : k = n) (h7 : 7 < n) (hR : R = if sdF n k next 0 true = true then 0 else 4) :
    Calls Try.prog 19 #[sdV a n cap (k : Int) next 0 true] w fun e w' => e = .returned (.int .i64 R) ∧ Below w.heap.size w w' := by
  have HB := Hid.mk (awG w (sdC a n cap (k : Int) next 0 true))
  have HR := Hid.mk (Row5.new w 28 (.slice a n cap) (.int .i64 (k : Int)) (.int .i64 next) (.int .i64 0) (.bool true))
  unfold sdC at HB
  unfold maxLen at hl
  have h3' : ¬ ((300 : Int) < (n : Int)) := by omega
  have h0' : ((n : Int) == 0) = false := by simp; omega
  have g1 : ¬ ((k : Int) < 0) := by omega
  have g2 : ¬ ((n : Int) < (k : Int)) := by omega
  have g3 : ¬ (0 < -1) := by omega
  have g4 : ¬ (255 < 0) := by omega
  have g5 : ¬ (next < 0) := by omega
  have g6 : ¬ (15 < next) := by omega
  have e1 : ((k : Int) == (n : Int)) = true := by simp; omega
  obtain ⟨h7a, h7b⟩ : ¬ ((n : Int) ≤ 7) ∧ 7 < n := ⟨by omega, h7⟩
  have HSF : Hid (∀ j, j ≤ nxN n → min (6 + 7 * j) n = k → (∀ i, i < j → min (6 + 7 * i) n ≠ k ∧ 6 + 7 * i < n) → sdF n k next 0 true = (next == (((j + 1) % 16 : Nat) : Int))) := Hid.mk (fun j hj hm hI => by
    have hjn : j = n / 7 := by
      have h1 : nxN n = n / 7 := by unfold nxN; rw [if_neg (by omega)]
      omega
    unfold sdF
    rw [if_pos hkn, if_neg (by omega), hkn]
    unfold numN
    rw [hjn, Nat.add_comm]
    simp)
  have HNF : Hid (∀ j, n ≤ 6 + 7 * j → (∀ i, i < j → min (6 + 7 * i) n ≠ k ∧ 6 + 7 * i < n) → k ≠ n → sdF n k next 0 true = false) := Hid.mk (fun j _ _ h => absurd hkn h)
  have HRS := Hid.mk hR
  clear hkn hR h7
  clear b3 b4 b5 b6
  unfold sdV
  go_enter Try.func19, Try.ntmps19
  go_wp2_with fail
  go_loopw [4] (fun i wr => ∃ j : Nat, j ≤ nxN n ∧ i = .int .i64 j ∧ Hid (∀ i, i < j → min (6 + 7 * i) n ≠ k ∧ 6 + 7 * i < n) ∧ wr = w.alloc (.cells #[.slice a n cap, .int .i64 (k : Int), .int .i64 next, .int .i64 0, .bool true] 28)) (fun i _ => nxN n + 1 - (intOf i).toNat)
  case atStart => exact ⟨0, Nat.zero_le _, rfl, Hid.mk (fun i hi => by omega), rfl⟩
  case round =>
    obtain ⟨j, hj, rfl, HI, rfl⟩ := hrel
    obtain ⟨k0, k1, k2, k3, k4⟩ := HR.out.cells
    have hK := nx_le n h3
    obtain ⟨E1, hE1⟩ : ∃ E1, E1 = 6 + 7 * j := ⟨_, rfl⟩
    have he1 : (6 : Int) + 7 * (j : Int) = (E1 : Int) := by omega
    have hE1b : (E1 : Int) ≤ 310 := by omega
    have hjb : (j : Int) ≤ 42 := by omega
    have hnb : (n : Int) ≤ 300 := by omega
    obtain ⟨N1, hN1⟩ : ∃ N1, N1 = (j + 1) % 16 := ⟨_, rfl⟩
    have hr0 : ((j : Int) + 1).tmod 16 = (N1 : Int) := by rw [Int.tmod_eq_emod_of_nonneg (by omega)]; omega
    have hrw : IntKind.i64.wrap (((j : Int) + 1).tmod 16) = (N1 : Int) := by rw [hr0, IntKind.wrap_i64]; omega
    have hN1b : (N1 : Int) ≤ 15 := by omega
    have HN1 := Hid.mk hN1
    have HE1 := Hid.mk hE1
    have HJ := Hid.mk hj
    rcases Nat.lt_or_ge n E1 with hc | hc
    · have hc' : (n : Int) < (E1 : Int) := by omega
      have hc2 : ¬ ((E1 : Int) ≤ (n : Int)) := by omega
      by_cases hat : n = k
      · have m1 : ((n : Int) == (k : Int)) = true := by simp; omega
        by_cases hx : next = (N1 : Int)
        · have m2 : (next != (N1 : Int)) = false := by simpa using hx
          have HRR : Hid (R = 0) := Hid.mk (by rw [HRS.out, HSF.out j HJ.out (by rw [← HE1.out]; omega) HI.out, ← HN1.out, show (next == (N1 : Int)) = true by simpa using hx]; rfl)
          clear hx hat hN1 hE1 hj
          go_wp2_with fail
          go_ret
          exact ⟨by rw [HRR.out]; rfl, HB.out⟩
        · have m2 : (next != (N1 : Int)) = true := by simpa using hx
          have HRR : Hid (R = 4) := Hid.mk (by rw [HRS.out, HSF.out j HJ.out (by rw [← HE1.out]; omega) HI.out, ← HN1.out, show (next == (N1 : Int)) = false by simpa using hx]; rfl)
          clear hx hat hN1 hE1 hj
          go_wp2_with fail
          go_ret
          exact ⟨by rw [HRR.out]; rfl, HB.out⟩
      · have m1 : ((n : Int) == (k : Int)) = false := by simp; omega
        have m3 : ((n : Int) == (n : Int)) = true := by simp
        have HRR : Hid (R = 4) := Hid.mk (by rw [HRS.out, HNF.out j (by rw [← HE1.out]; omega) HI.out (by omega)]; rfl)
        clear hat hN1 hE1 hj
        go_wp2_with fail
        go_ret
        exact ⟨by rw [HRR.out]; rfl, HB.out⟩
    · have hc' : ¬ ((n : Int) < (E1 : Int)) := by omega
      have hc2 : (E1 : Int) ≤ (n : Int) := by omega
      by_cases hat : E1 = k
      · have m1 : ((E1 : Int) == (k : Int)) = true := by simp; omega
        by_cases hx : next = (N1 : Int)
        · have m2 : (next != (N1 : Int)) = false := by simpa using hx
          have HRR : Hid (R = 0) := Hid.mk (by rw [HRS.out, HSF.out j HJ.out (by rw [← HE1.out]; omega) HI.out, ← HN1.out, show (next == (N1 : Int)) = true by simpa using hx]; rfl)
          clear hx hat hN1 hE1 hj
          go_wp2_with fail
          go_ret
          exact ⟨by rw [HRR.out]; rfl, HB.out⟩
        · have m2 : (next != (N1 : Int)) = true := by simpa using hx
          have HRR : Hid (R = 4) := Hid.mk (by rw [HRS.out, HSF.out j HJ.out (by rw [← HE1.out]; omega) HI.out, ← HN1.out, show (next == (N1 : Int)) = false by simpa using hx]; rfl)
          clear hx hat hN1 hE1 hj
          go_wp2_with fail
          go_ret
          exact ⟨by rw [HRR.out]; rfl, HB.out⟩
      · have m1 : ((E1 : Int) == (k : Int)) = false := by simp; omega
        by_cases hen : E1 = n
        · have m3 : ((E1 : Int) == (n : Int)) = true := by simp; omega
          have HRR : Hid (R = 4) := Hid.mk (by rw [HRS.out, HNF.out j (by rw [← HE1.out]; omega) HI.out (by omega)]; rfl)
          clear hen hat hN1 hE1 hj
          go_wp2_with fail
          go_ret
          exact ⟨by rw [HRR.out]; rfl, HB.out⟩
        · have m3 : ((E1 : Int) == (n : Int)) = false := by simp; omega
          have hjn : j < nxN n := by
            have h := at_lt (n := n) (j := j) hj
            rw [show inF n = 6 by unfold inF; rw [if_neg (by omega)]] at h
            exact h.1 (by omega)
          have HI2 : Hid (∀ i, i < j + 1 → min (6 + 7 * i) n ≠ k ∧ 6 + 7 * i < n) := Hid.mk (fun i hi => by
            rcases Nat.lt_or_ge i j with h | h
            · exact HI.out i h
            · obtain rfl : i = j := by omega
              omega)
          have HJN := Hid.mk hjn
          clear hen hat hN1 hE1 hj hjn
          go_wp2_with fail
          go_roundw
          case rel => exact ⟨j + 1, HJN.out, int_eq (by omega), HI2, by first | rfl | trivial⟩
          case measure => have := HJN.out; simp [intOf]; omega
set_option maxHeartbeats 4000000 in
set_option maxRecDepth 100000 in
theorem lc_loop_part (a : Option Addr) (cap : Nat) (n k : Nat) (next left : Int) (R : Int) (w : World) (hl : n ≤ maxLen) (h3 : n ≤ 300) (h0 : 1 ≤ n) (b1 : k ≤ n) (b3 : -1 ≤ left) (b4 : left ≤ 255) (b5 : 0 ≤ next) (b6 : next ≤ 15) (hkn : k < n) (h7 : 7 < n) (hR : R = if sdF n k next left false = true then 0 else 4) :
    Calls Try.prog 19 #[sdV a n cap (k : Int) next left false] w fun e w' => e = .returned (.int .i64 R) ∧ Below w.heap.size w w' := by
  have HB := Hid.mk (awG w (sdC a n cap (k : Int) next left false))
  have HR := Hid.mk (Row5.new w 28 (.slice a n cap) (.int .i64 (k : Int)) (.int .i64 next) (.int .i64 left) (.bool false))
  unfold sdC at HB
  unfold maxLen at hl
  have h3' : ¬ ((300 : Int) < (n : Int)) := by omega
  have h0' : ((n : Int) == 0) = false := by simp; omega
  have g1 : ¬ ((k : Int) < 0) := by omega
  have g2 : ¬ ((n : Int) < (k : Int)) := by omega
  have g3 : ¬ (left < -1) := by omega
  have g4 : ¬ (255 < left) := by omega
  have g5 : ¬ (next < 0) := by omega
  have g6 : ¬ (15 < next) := by omega
  have e1 : ((k : Int) == (n : Int)) = false := by simp; omega
  obtain ⟨h7a, h7b⟩ : ¬ ((n : Int) ≤ 7) ∧ 7 < n := ⟨by omega, h7⟩
  have HSF : Hid (∀ j, j ≤ nxN n → min (6 + 7 * j) n = k → (∀ i, i < j → min (6 + 7 * i) n ≠ k ∧ 6 + 7 * i < n) → sdF n k next left false = (next == (((j + 1) % 16 : Nat) : Int))) := Hid.mk (fun j hj hm hI => by
    have hkj : k = 6 + 7 * j := by omega
    have hbt : btw k = true := by
      unfold btw
      rw [hkj, show 6 + 7 * j - 6 = 7 * j by omega, Nat.mul_mod_right]
      simp
    unfold sdF
    rw [if_neg (by omega), hbt, show numN k = (j + 1) % 16 by rw [hkj, numN_at], show decide (7 < n) = true by simpa using h7]
    rfl)
  have HNF : Hid (∀ j, n ≤ 6 + 7 * j → (∀ i, i < j → min (6 + 7 * i) n ≠ k ∧ 6 + 7 * i < n) → k ≠ n → sdF n k next left false = false) := Hid.mk (fun j hj hI _ => by
    have hbt : btw k = false := by
      unfold btw
      cases hd : decide (6 ≤ k) && decide ((k - 6) % 7 = 0) with
      | false => rfl
      | true =>
        simp at hd
        have h1 := hI ((k - 6) / 7) (by omega)
        omega
    unfold sdF
    rw [if_neg (by omega), hbt]
    simp)
  have HRS := Hid.mk hR
  clear hkn hR h7
  clear b3 b4 b5 b6
  unfold sdV
  go_enter Try.func19, Try.ntmps19
  go_wp2_with fail
  go_loopw [4] (fun i wr => ∃ j : Nat, j ≤ nxN n ∧ i = .int .i64 j ∧ Hid (∀ i, i < j → min (6 + 7 * i) n ≠ k ∧ 6 + 7 * i < n) ∧ wr = w.alloc (.cells #[.slice a n cap, .int .i64 (k : Int), .int .i64 next, .int .i64 left, .bool false] 28)) (fun i _ => nxN n + 1 - (intOf i).toNat)
  case atStart => exact ⟨0, Nat.zero_le _, rfl, Hid.mk (fun i hi => by omega), rfl⟩
  case round =>
    obtain ⟨j, hj, rfl, HI, rfl⟩ := hrel
    obtain ⟨k0, k1, k2, k3, k4⟩ := HR.out.cells
    have hK := nx_le n h3
    obtain ⟨E1, hE1⟩ : ∃ E1, E1 = 6 + 7 * j := ⟨_, rfl⟩
    have he1 : (6 : Int) + 7 * (j : Int) = (E1 : Int) := by omega
    have hE1b : (E1 : Int) ≤ 310 := by omega
    have hjb : (j : Int) ≤ 42 := by omega
    have hnb : (n : Int) ≤ 300 := by omega
    obtain ⟨N1, hN1⟩ : ∃ N1, N1 = (j + 1) % 16 := ⟨_, rfl⟩
    have hr0 : ((j : Int) + 1).tmod 16 = (N1 : Int) := by rw [Int.tmod_eq_emod_of_nonneg (by omega)]; omega
    have hrw : IntKind.i64.wrap (((j : Int) + 1).tmod 16) = (N1 : Int) := by rw [hr0, IntKind.wrap_i64]; omega
    have hN1b : (N1 : Int) ≤ 15 := by omega
    have HN1 := Hid.mk hN1
    have HE1 := Hid.mk hE1
    have HJ := Hid.mk hj
    rcases Nat.lt_or_ge n E1 with hc | hc
    · have hc' : (n : Int) < (E1 : Int) := by omega
      have hc2 : ¬ ((E1 : Int) ≤ (n : Int)) := by omega
      by_cases hat : n = k
      · have m1 : ((n : Int) == (k : Int)) = true := by simp; omega
        by_cases hx : next = (N1 : Int)
        · have m2 : (next != (N1 : Int)) = false := by simpa using hx
          have HRR : Hid (R = 0) := Hid.mk (by rw [HRS.out, HSF.out j HJ.out (by rw [← HE1.out]; omega) HI.out, ← HN1.out, show (next == (N1 : Int)) = true by simpa using hx]; rfl)
          clear hx hat hN1 hE1 hj
          go_wp2_with fail
          go_ret
          exact ⟨by rw [HRR.out]; rfl, HB.out⟩
        · have m2 : (next != (N1 : Int)) = true := by simpa using hx
          have HRR : Hid (R = 4) := Hid.mk (by rw [HRS.out, HSF.out j HJ.out (by rw [← HE1.out]; omega) HI.out, ← HN1.out, show (next == (N1 : Int)) = false by simpa using hx]; rfl)
          clear hx hat hN1 hE1 hj
          go_wp2_with fail
          go_ret
          exact ⟨by rw [HRR.out]; rfl, HB.out⟩
      · have m1 : ((n : Int) == (k : Int)) = false := by simp; omega
        have m3 : ((n : Int) == (n : Int)) = true := by simp
        have HRR : Hid (R = 4) := Hid.mk (by rw [HRS.out, HNF.out j (by rw [← HE1.out]; omega) HI.out (by omega)]; rfl)
        clear hat hN1 hE1 hj
        go_wp2_with fail
        go_ret
        exact ⟨by rw [HRR.out]; rfl, HB.out⟩
    · have hc' : ¬ ((n : Int) < (E1 : Int)) := by omega
      have hc2 : (E1 : Int) ≤ (n : Int) := by omega
      by_cases hat : E1 = k
      · have m1 : ((E1 : Int) == (k : Int)) = true := by simp; omega
        by_cases hx : next = (N1 : Int)
        · have m2 : (next != (N1 : Int)) = false := by simpa using hx
          have HRR : Hid (R = 0) := Hid.mk (by rw [HRS.out, HSF.out j HJ.out (by rw [← HE1.out]; omega) HI.out, ← HN1.out, show (next == (N1 : Int)) = true by simpa using hx]; rfl)
          clear hx hat hN1 hE1 hj
          go_wp2_with fail
          go_ret
          exact ⟨by rw [HRR.out]; rfl, HB.out⟩
        · have m2 : (next != (N1 : Int)) = true := by simpa using hx
          have HRR : Hid (R = 4) := Hid.mk (by rw [HRS.out, HSF.out j HJ.out (by rw [← HE1.out]; omega) HI.out, ← HN1.out, show (next == (N1 : Int)) = false by simpa using hx]; rfl)
          clear hx hat hN1 hE1 hj
          go_wp2_with fail
          go_ret
          exact ⟨by rw [HRR.out]; rfl, HB.out⟩
      · have m1 : ((E1 : Int) == (k : Int)) = false := by simp; omega
        by_cases hen : E1 = n
        · have m3 : ((E1 : Int) == (n : Int)) = true := by simp; omega
          have HRR : Hid (R = 4) := Hid.mk (by rw [HRS.out, HNF.out j (by rw [← HE1.out]; omega) HI.out (by omega)]; rfl)
          clear hen hat hN1 hE1 hj
          go_wp2_with fail
          go_ret
          exact ⟨by rw [HRR.out]; rfl, HB.out⟩
        · have m3 : ((E1 : Int) == (n : Int)) = false := by simp; omega
          have hjn : j < nxN n := by
            have h := at_lt (n := n) (j := j) hj
            rw [show inF n = 6 by unfold inF; rw [if_neg (by omega)]] at h
            exact h.1 (by omega)
          have HI2 : Hid (∀ i, i < j + 1 → min (6 + 7 * i) n ≠ k ∧ 6 + 7 * i < n) := Hid.mk (fun i hi => by
            rcases Nat.lt_or_ge i j with h | h
            · exact HI.out i h
            · obtain rfl : i = j := by omega
              omega)
          have HJN := Hid.mk hjn
          clear hen hat hN1 hE1 hj hjn
          go_wp2_with fail
          go_roundw
          case rel => exact ⟨j + 1, HJN.out, int_eq (by omega), HI2, by first | rfl | trivial⟩
          case measure => have := HJN.out; simp [intOf]; omega
theorem lcheckSender_any (a : Option Addr) (n cap : Nat) (k next left : Int) (done : Bool) (w : World) (hl : n ≤ maxLen) :
    Calls Try.prog 19 #[sdV a n cap k next left done] w fun e w' => e = .returned (.int .i64 (sdE n k next left done)) ∧ Below w.heap.size w w' := by
  unfold sdE
  by_cases h3 : 300 < n
  · rw [if_pos h3]
    exact lc_many a cap n k next left done w hl h3
  · rw [if_neg h3]
    by_cases h0 : n = 0
    · rw [if_pos h0]
      subst h0
      exact lc_none a cap k next left done w hl
    · rw [if_neg h0]
      by_cases c1 : k < 0
      · rw [if_pos (inP_no (by omega))]
        exact lc_klow a cap n k next left done w hl (by omega) (by omega) c1
      · by_cases c2 : (n : Int) < k
        · rw [if_pos (inP_no (by omega))]
          exact lc_khigh a cap n k next left done w hl (by omega) (by omega) (by omega) c2
        · rw [if_neg (by rw [inP_yes ⟨by omega, by omega⟩]; simp)]
          by_cases c3 : left < -1
          · rw [if_pos (inP_no (by omega))]
            exact lc_llow a cap n k next left done w hl (by omega) (by omega) (by omega) (by omega) c3
          · by_cases c4 : 255 < left
            · rw [if_pos (inP_no (by omega))]
              exact lc_lhigh a cap n k next left done w hl (by omega) (by omega) (by omega) (by omega) (by omega) c4
            · rw [if_neg (by rw [inP_yes ⟨by omega, by omega⟩]; simp)]
              by_cases c5 : next < 0
              · rw [if_pos (inP_no (by omega))]
                exact lc_xlow a cap n k next left done w hl (by omega) (by omega) (by omega) (by omega) (by omega) (by omega) c5
              · by_cases c6 : 15 < next
                · rw [if_pos (inP_no (by omega))]
                  exact lc_xhigh a cap n k next left done w hl (by omega) (by omega) (by omega) (by omega) (by omega) (by omega) (by omega) c6
                · rw [if_neg (by rw [inP_yes ⟨by omega, by omega⟩]; simp)]
                  obtain ⟨K, rfl⟩ : ∃ K : Nat, k = (K : Int) := ⟨k.toNat, by omega⟩
                  rw [Int.toNat_natCast]
                  by_cases hkn : K = n
                  · cases done with
                    | false =>
                      rw [show sdF n K next left false = false by unfold sdF; rw [if_pos hkn]; rfl]
                      exact lc_all_not a cap n K next left w hl (by omega) (by omega) (by omega) (by omega) (by omega) (by omega) (by omega) hkn
                    | true =>
                      by_cases hlf : left = 0
                      · subst hlf
                        by_cases h7 : n ≤ 7
                        · by_cases hx : next = 1
                          · subst hx
                            rw [show sdF n K 1 0 true = true by unfold sdF; rw [if_pos hkn, if_pos h7]; rfl]
                            exact lc_one_ok a cap n K w hl (by omega) (by omega) (by omega) (by omega) (by omega) (by omega) (by omega) hkn h7
                          · rw [show sdF n K next 0 true = false by unfold sdF; rw [if_pos hkn, if_pos h7, show (next == 1) = false by simpa using hx]; rfl]
                            exact lc_one_next a cap n K next w hl (by omega) (by omega) (by omega) (by omega) (by omega) (by omega) (by omega) hkn h7 hx
                        · exact lc_loop_all a cap n K next _ w hl (by omega) (by omega) (by omega) (by omega) (by omega) (by omega) (by omega) hkn (by omega) rfl
                      · rw [show sdF n K next left true = false by unfold sdF; rw [if_pos hkn, show (left == 0) = false by simpa using hlf]; rfl]
                        exact lc_all_left a cap n K next left w hl (by omega) (by omega) (by omega) (by omega) (by omega) (by omega) (by omega) hkn hlf
                  · cases done with
                    | true =>
                      rw [show sdF n K next left true = false by unfold sdF; rw [if_neg hkn]; rfl]
                      exact lc_part_done a cap n K next left w hl (by omega) (by omega) (by omega) (by omega) (by omega) (by omega) (by omega) (by omega)
                    | false =>
                      by_cases h7 : n ≤ 7
                      · rw [show sdF n K next left false = false by unfold sdF; rw [if_neg hkn, show decide (7 < n) = false by simpa using h7]; rfl]
                        exact lc_few a cap n K next left w hl (by omega) (by omega) (by omega) (by omega) (by omega) (by omega) (by omega) (by omega) h7
                      · exact lc_loop_part a cap n K next left _ w hl (by omega) (by omega) (by omega) (by omega) (by omega) (by omega) (by omega) (by omega) (by omega) rfl
end Bw
end Go.Proofs.Ytgjnfmbmndnihaa
