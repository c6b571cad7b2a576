/- The law's own checkGetter and sameGetter. -/
import Derived.Test.YtljigcmhkjbhjaaPtGetAny
import Derived.Test.YtljigcmhkjbhjaaPtLawA
namespace Go.Proofs.Ytljigcmhkjbhjaa
open Go.ChangeShapes Go.WideShapes Go.ChangeAt Go.RowKit
namespace Bw
open Bm
set_option linter.unusedVariables false
theorem inc_any (n top : Int) (w : World) :
    Calls Try.prog 39 #[.int .i64 n, .int .i64 top] w fun e w' => e = .returned (.bool (inP n 0 top)) ∧ w' = w := by
  by_cases h0 : 0 ≤ n
  · by_cases h1 : n ≤ top
    · rw [inP_yes ⟨h0, h1⟩]
      go_enter Try.func39, Try.ntmps39
      go_wp2_with fail
      go_ret
      exact ⟨rfl, rfl⟩
    · rw [inP_no (fun h => h1 h.2)]
      go_enter Try.func39, Try.ntmps39
      go_wp2_with fail
      go_ret
      exact ⟨rfl, rfl⟩
  · rw [inP_no (fun h => h0 h.1)]
    go_enter Try.func39, Try.ntmps39
    go_wp2_with fail
    go_ret
    exact ⟨rfl, rfl⟩
set_option maxHeartbeats 2000000 in
set_option maxRecDepth 100000 in
theorem lg_1 (a : Option Addr) (cap : Nat) (n : Nat) (want next block left : Int) (w : World) (hl : n ≤ maxLen) (i1 : inP want 0 300 = false) :
    Calls Try.prog 22 #[gtV want a n cap next block left] w fun e w' => e = .returned (.int .i64 3) ∧ Below w.heap.size w w' := by
  have HB := Hid.mk (awG w (gtC want a n cap next block left))
  unfold gtC at HB
  unfold maxLen at hl
  have hW1 := fun W => inc_any want 300 W
  simp only [i1] at hW1
  clear i1
  unfold gtV
  go_enter Try.func22, Try.ntmps22
  go_wp2_with fail
  refine (hW1 _).mono ?_
  rintro e w1 ⟨rfl, hw1⟩
  rw [hw1]
  clear hw1 hW1
  go_wp2_with fail
  go_ret
  exact ⟨rfl, HB.out⟩
set_option maxHeartbeats 2000000 in
set_option maxRecDepth 100000 in
theorem lg_2 (a : Option Addr) (cap : Nat) (n : Nat) (want next block left : Int) (w : World) (hl : n ≤ maxLen) (i1 : inP want 0 300 = true) (i2 : inP block 0 255 = false) :
    Calls Try.prog 22 #[gtV want a n cap next block left] w fun e w' => e = .returned (.int .i64 3) ∧ Below w.heap.size w w' := by
  have HB := Hid.mk (awG w (gtC want a n cap next block left))
  unfold gtC at HB
  unfold maxLen at hl
  have hW1 := fun W => inc_any want 300 W
  simp only [i1] at hW1
  clear i1
  have hW2 := fun W => inc_any block 255 W
  simp only [i2] at hW2
  clear i2
  unfold gtV
  go_enter Try.func22, Try.ntmps22
  go_wp2_with fail
  refine (hW1 _).mono ?_
  rintro e w1 ⟨rfl, hw1⟩
  rw [hw1]
  clear hw1 hW1
  go_wp2_with fail
  refine (hW2 _).mono ?_
  rintro e w1 ⟨rfl, hw1⟩
  rw [hw1]
  clear hw1 hW2
  go_wp2_with fail
  go_ret
  exact ⟨rfl, HB.out⟩
set_option maxHeartbeats 2000000 in
set_option maxRecDepth 100000 in
theorem lg_3 (a : Option Addr) (cap : Nat) (n : Nat) (want next block left : Int) (w : World) (hl : n ≤ maxLen) (i1 : inP want 0 300 = true) (i2 : inP block 0 255 = true) (i3 : inP left 0 block = false) :
    Calls Try.prog 22 #[gtV want a n cap next block left] w fun e w' => e = .returned (.int .i64 3) ∧ Below w.heap.size w w' := by
  have HB := Hid.mk (awG w (gtC want a n cap next block left))
  unfold gtC at HB
  unfold maxLen at hl
  have hW1 := fun W => inc_any want 300 W
  simp only [i1] at hW1
  clear i1
  have hW2 := fun W => inc_any block 255 W
  simp only [i2] at hW2
  clear i2
  have hW3 := fun W => inc_any left block W
  simp only [i3] at hW3
  clear i3
  unfold gtV
  go_enter Try.func22, Try.ntmps22
  go_wp2_with fail
  refine (hW1 _).mono ?_
  rintro e w1 ⟨rfl, hw1⟩
  rw [hw1]
  clear hw1 hW1
  go_wp2_with fail
  refine (hW2 _).mono ?_
  rintro e w1 ⟨rfl, hw1⟩
  rw [hw1]
  clear hw1 hW2
  go_wp2_with fail
  refine (hW3 _).mono ?_
  rintro e w1 ⟨rfl, hw1⟩
  rw [hw1]
  clear hw1 hW3
  go_wp2_with fail
  go_ret
  exact ⟨rfl, HB.out⟩
set_option maxHeartbeats 2000000 in
set_option maxRecDepth 100000 in
theorem lg_4 (a : Option Addr) (cap : Nat) (n : Nat) (want next block left : Int) (w : World) (hl : n ≤ maxLen) (i1 : inP want 0 300 = true) (i2 : inP block 0 255 = true) (i3 : inP left 0 block = true) (i4 : inP next 0 15 = false) :
    Calls Try.prog 22 #[gtV want a n cap next block left] w fun e w' => e = .returned (.int .i64 3) ∧ Below w.heap.size w w' := by
  have HB := Hid.mk (awG w (gtC want a n cap next block left))
  unfold gtC at HB
  unfold maxLen at hl
  have hW1 := fun W => inc_any want 300 W
  simp only [i1] at hW1
  clear i1
  have hW2 := fun W => inc_any block 255 W
  simp only [i2] at hW2
  clear i2
  have hW3 := fun W => inc_any left block W
  simp only [i3] at hW3
  clear i3
  have hW4 := fun W => inc_any next 15 W
  simp only [i4] at hW4
  clear i4
  unfold gtV
  go_enter Try.func22, Try.ntmps22
  go_wp2_with fail
  refine (hW1 _).mono ?_
  rintro e w1 ⟨rfl, hw1⟩
  rw [hw1]
  clear hw1 hW1
  go_wp2_with fail
  refine (hW2 _).mono ?_
  rintro e w1 ⟨rfl, hw1⟩
  rw [hw1]
  clear hw1 hW2
  go_wp2_with fail
  refine (hW3 _).mono ?_
  rintro e w1 ⟨rfl, hw1⟩
  rw [hw1]
  clear hw1 hW3
  go_wp2_with fail
  refine (hW4 _).mono ?_
  rintro e w1 ⟨rfl, hw1⟩
  rw [hw1]
  clear hw1 hW4
  go_wp2_with fail
  go_ret
  exact ⟨rfl, HB.out⟩
set_option maxHeartbeats 2000000 in
set_option maxRecDepth 100000 in
theorem lg0_n (a : Option Addr) (cap : Nat) (n : Nat) (next block left : Int) (w : World) (hl : n ≤ maxLen) (i1 : inP 0 0 300 = true) (i2 : inP block 0 255 = true) (i3 : inP left 0 block = true) (i4 : inP next 0 15 = true) (h0 : n ≠ 0) :
    Calls Try.prog 22 #[gtV 0 a n cap next block left] w fun e w' => e = .returned (.int .i64 4) ∧ Below w.heap.size w w' := by
  have HB := Hid.mk (awG w (gtC 0 a n cap next block left))
  unfold gtC at HB
  unfold maxLen at hl
  have h0' : ((n : Int) != 0) = true := by simp; omega
  clear h0
  have hW1 := fun W => inc_any 0 300 W
  simp only [i1] at hW1
  clear i1
  have hW2 := fun W => inc_any block 255 W
  simp only [i2] at hW2
  clear i2
  have hW3 := fun W => inc_any left block W
  simp only [i3] at hW3
  clear i3
  have hW4 := fun W => inc_any next 15 W
  simp only [i4] at hW4
  clear i4
  unfold gtV
  go_enter Try.func22, Try.ntmps22
  go_wp2_with fail
  refine (hW1 _).mono ?_
  rintro e w1 ⟨rfl, hw1⟩
  rw [hw1]
  clear hw1 hW1
  go_wp2_with fail
  refine (hW2 _).mono ?_
  rintro e w1 ⟨rfl, hw1⟩
  rw [hw1]
  clear hw1 hW2
  go_wp2_with fail
  refine (hW3 _).mono ?_
  rintro e w1 ⟨rfl, hw1⟩
  rw [hw1]
  clear hw1 hW3
  go_wp2_with fail
  refine (hW4 _).mono ?_
  rintro e w1 ⟨rfl, hw1⟩
  rw [hw1]
  clear hw1 hW4
  go_wp2_with fail
  go_ret
  exact ⟨rfl, HB.out⟩
set_option maxHeartbeats 2000000 in
set_option maxRecDepth 100000 in
theorem lg0_next (a : Option Addr) (cap : Nat) (next block left : Int) (w : World) (hl : 0 ≤ maxLen) (i1 : inP 0 0 300 = true) (i2 : inP block 0 255 = true) (i3 : inP left 0 block = true) (i4 : inP next 0 15 = true) (h0 : next ≠ 0) :
    Calls Try.prog 22 #[gtV 0 a 0 cap next block left] w fun e w' => e = .returned (.int .i64 4) ∧ Below w.heap.size w w' := by
  have HB := Hid.mk (awG w (gtC 0 a 0 cap next block left))
  unfold gtC at HB
  unfold maxLen at hl
  have h0' : (next != 0) = true := by simpa using h0
  clear h0
  have hW1 := fun W => inc_any 0 300 W
  simp only [i1] at hW1
  clear i1
  have hW2 := fun W => inc_any block 255 W
  simp only [i2] at hW2
  clear i2
  have hW3 := fun W => inc_any left block W
  simp only [i3] at hW3
  clear i3
  have hW4 := fun W => inc_any next 15 W
  simp only [i4] at hW4
  clear i4
  unfold gtV
  go_enter Try.func22, Try.ntmps22
  go_wp2_with fail
  refine (hW1 _).mono ?_
  rintro e w1 ⟨rfl, hw1⟩
  rw [hw1]
  clear hw1 hW1
  go_wp2_with fail
  refine (hW2 _).mono ?_
  rintro e w1 ⟨rfl, hw1⟩
  rw [hw1]
  clear hw1 hW2
  go_wp2_with fail
  refine (hW3 _).mono ?_
  rintro e w1 ⟨rfl, hw1⟩
  rw [hw1]
  clear hw1 hW3
  go_wp2_with fail
  refine (hW4 _).mono ?_
  rintro e w1 ⟨rfl, hw1⟩
  rw [hw1]
  clear hw1 hW4
  go_wp2_with fail
  go_ret
  exact ⟨rfl, HB.out⟩
set_option maxHeartbeats 2000000 in
set_option maxRecDepth 100000 in
theorem lg0_left (a : Option Addr) (cap : Nat) (block left : Int) (w : World) (hl : 0 ≤ maxLen) (i1 : inP 0 0 300 = true) (i2 : inP block 0 255 = true) (i3 : inP left 0 block = true) (i4 : inP 0 0 15 = true) (h0 : left ≠ 0) :
    Calls Try.prog 22 #[gtV 0 a 0 cap 0 block left] w fun e w' => e = .returned (.int .i64 4) ∧ Below w.heap.size w w' := by
  have HB := Hid.mk (awG w (gtC 0 a 0 cap 0 block left))
  unfold gtC at HB
  unfold maxLen at hl
  have h0' : (left != 0) = true := by simpa using h0
  clear h0
  have hW1 := fun W => inc_any 0 300 W
  simp only [i1] at hW1
  clear i1
  have hW2 := fun W => inc_any block 255 W
  simp only [i2] at hW2
  clear i2
  have hW3 := fun W => inc_any left block W
  simp only [i3] at hW3
  clear i3
  have hW4 := fun W => inc_any 0 15 W
  simp only [i4] at hW4
  clear i4
  unfold gtV
  go_enter Try.func22, Try.ntmps22
  go_wp2_with fail
  refine (hW1 _).mono ?_
  rintro e w1 ⟨rfl, hw1⟩
  rw [hw1]
  clear hw1 hW1
  go_wp2_with fail
  refine (hW2 _).mono ?_
  rintro e w1 ⟨rfl, hw1⟩
  rw [hw1]
  clear hw1 hW2
  go_wp2_with fail
  refine (hW3 _).mono ?_
  rintro e w1 ⟨rfl, hw1⟩
  rw [hw1]
  clear hw1 hW3
  go_wp2_with fail
  refine (hW4 _).mono ?_
  rintro e w1 ⟨rfl, hw1⟩
  rw [hw1]
  clear hw1 hW4
  go_wp2_with fail
  go_ret
  exact ⟨rfl, HB.out⟩
set_option maxHeartbeats 2000000 in
set_option maxRecDepth 100000 in
theorem lg0_ok (a : Option Addr) (cap : Nat) (block : Int) (w : World) (hl : 0 ≤ maxLen) (i1 : inP 0 0 300 = true) (i2 : inP block 0 255 = true) (i3 : inP 0 0 block = true) (i4 : inP 0 0 15 = true)  :
    Calls Try.prog 22 #[gtV 0 a 0 cap 0 block 0] w fun e w' => e = .returned (.int .i64 0) ∧ Below w.heap.size w w' := by
  have HB := Hid.mk (awG w (gtC 0 a 0 cap 0 block 0))
  unfold gtC at HB
  unfold maxLen at hl
  have hW1 := fun W => inc_any 0 300 W
  simp only [i1] at hW1
  clear i1
  have hW2 := fun W => inc_any block 255 W
  simp only [i2] at hW2
  clear i2
  have hW3 := fun W => inc_any 0 block W
  simp only [i3] at hW3
  clear i3
  have hW4 := fun W => inc_any 0 15 W
  simp only [i4] at hW4
  clear i4
  unfold gtV
  go_enter Try.func22, Try.ntmps22
  go_wp2_with fail
  refine (hW1 _).mono ?_
  rintro e w1 ⟨rfl, hw1⟩
  rw [hw1]
  clear hw1 hW1
  go_wp2_with fail
  refine (hW2 _).mono ?_
  rintro e w1 ⟨rfl, hw1⟩
  rw [hw1]
  clear hw1 hW2
  go_wp2_with fail
  refine (hW3 _).mono ?_
  rintro e w1 ⟨rfl, hw1⟩
  rw [hw1]
  clear hw1 hW3
  go_wp2_with fail
  refine (hW4 _).mono ?_
  rintro e w1 ⟨rfl, hw1⟩
  rw [hw1]
  clear hw1 hW4
  go_wp2_with fail
  go_ret
  exact ⟨rfl, HB.out⟩
set_option maxHeartbeats 2000000 in
set_option maxRecDepth 100000 in
theorem lg_few (a : Option Addr) (cap : Nat) (n : Nat) (want next block left : Int) (w : World) (hl : n ≤ maxLen) (i1 : inP want 0 300 = true) (i2 : inP block 0 255 = true) (i3 : inP left 0 block = true) (i4 : inP next 0 15 = true) (h0 : want ≠ 0) (h8 : want < 8) :
    Calls Try.prog 22 #[gtV want a n cap next block left] w fun e w' => e = .returned (.int .i64 4) ∧ Below w.heap.size w w' := by
  have HB := Hid.mk (awG w (gtC want a n cap next block left))
  unfold gtC at HB
  unfold maxLen at hl
  have hw0 : (want == 0) = false := by simp; omega
  clear h0
  have hW1 := fun W => inc_any want 300 W
  simp only [i1] at hW1
  clear i1
  have hW2 := fun W => inc_any block 255 W
  simp only [i2] at hW2
  clear i2
  have hW3 := fun W => inc_any left block W
  simp only [i3] at hW3
  clear i3
  have hW4 := fun W => inc_any next 15 W
  simp only [i4] at hW4
  clear i4
  unfold gtV
  go_enter Try.func22, Try.ntmps22
  go_wp2_with fail
  refine (hW1 _).mono ?_
  rintro e w1 ⟨rfl, hw1⟩
  rw [hw1]
  clear hw1 hW1
  go_wp2_with fail
  refine (hW2 _).mono ?_
  rintro e w1 ⟨rfl, hw1⟩
  rw [hw1]
  clear hw1 hW2
  go_wp2_with fail
  refine (hW3 _).mono ?_
  rintro e w1 ⟨rfl, hw1⟩
  rw [hw1]
  clear hw1 hW3
  go_wp2_with fail
  refine (hW4 _).mono ?_
  rintro e w1 ⟨rfl, hw1⟩
  rw [hw1]
  clear hw1 hW4
  go_wp2_with fail
  go_ret
  exact ⟨rfl, HB.out⟩
set_option maxHeartbeats 2000000 in
set_option maxRecDepth 100000 in
theorem lg_six (a : Option Addr) (cap : Nat) (n : Nat) (want next block left : Int) (w : World) (hl : n ≤ maxLen) (i1 : inP want 0 300 = true) (i2 : inP block 0 255 = true) (i3 : inP left 0 block = true) (i4 : inP next 0 15 = true) (h8 : 8 ≤ want) (h6 : n < 6) :
    Calls Try.prog 22 #[gtV want a n cap next block left] w fun e w' => e = .returned (.int .i64 4) ∧ Below w.heap.size w w' := by
  have HB := Hid.mk (awG w (gtC want a n cap next block left))
  unfold gtC at HB
  unfold maxLen at hl
  have hw0 : (want == 0) = false := by simp; omega
  have h8' : ¬ (want < 8) := by omega
  have h6' : (n : Int) < 6 := by omega
  clear h8
  have hW1 := fun W => inc_any want 300 W
  simp only [i1] at hW1
  clear i1
  have hW2 := fun W => inc_any block 255 W
  simp only [i2] at hW2
  clear i2
  have hW3 := fun W => inc_any left block W
  simp only [i3] at hW3
  clear i3
  have hW4 := fun W => inc_any next 15 W
  simp only [i4] at hW4
  clear i4
  unfold gtV
  go_enter Try.func22, Try.ntmps22
  go_wp2_with fail
  refine (hW1 _).mono ?_
  rintro e w1 ⟨rfl, hw1⟩
  rw [hw1]
  clear hw1 hW1
  go_wp2_with fail
  refine (hW2 _).mono ?_
  rintro e w1 ⟨rfl, hw1⟩
  rw [hw1]
  clear hw1 hW2
  go_wp2_with fail
  refine (hW3 _).mono ?_
  rintro e w1 ⟨rfl, hw1⟩
  rw [hw1]
  clear hw1 hW3
  go_wp2_with fail
  refine (hW4 _).mono ?_
  rintro e w1 ⟨rfl, hw1⟩
  rw [hw1]
  clear hw1 hW4
  go_wp2_with fail
  go_ret
  exact ⟨rfl, HB.out⟩
set_option maxHeartbeats 2000000 in
set_option maxRecDepth 100000 in
theorem lg_full (a : Option Addr) (cap : Nat) (n : Nat) (want next block left : Int) (w : World) (hl : n ≤ maxLen) (i1 : inP want 0 300 = true) (i2 : inP block 0 255 = true) (i3 : inP left 0 block = true) (i4 : inP next 0 15 = true) (h8 : 8 ≤ want) (h6 : 6 ≤ n) (hn : want ≤ (n : Int)) :
    Calls Try.prog 22 #[gtV want a n cap next block left] w fun e w' => e = .returned (.int .i64 4) ∧ Below w.heap.size w w' := by
  have HB := Hid.mk (awG w (gtC want a n cap next block left))
  unfold gtC at HB
  unfold maxLen at hl
  have hw0 : (want == 0) = false := by simp; omega
  have h8' : ¬ (want < 8) := by omega
  have h6' : ¬ ((n : Int) < 6) := by omega
  clear h8 h6
  have hW1 := fun W => inc_any want 300 W
  simp only [i1] at hW1
  clear i1
  have hW2 := fun W => inc_any block 255 W
  simp only [i2] at hW2
  clear i2
  have hW3 := fun W => inc_any left block W
  simp only [i3] at hW3
  clear i3
  have hW4 := fun W => inc_any next 15 W
  simp only [i4] at hW4
  clear i4
  unfold gtV
  go_enter Try.func22, Try.ntmps22
  go_wp2_with fail
  refine (hW1 _).mono ?_
  rintro e w1 ⟨rfl, hw1⟩
  rw [hw1]
  clear hw1 hW1
  go_wp2_with fail
  refine (hW2 _).mono ?_
  rintro e w1 ⟨rfl, hw1⟩
  rw [hw1]
  clear hw1 hW2
  go_wp2_with fail
  refine (hW3 _).mono ?_
  rintro e w1 ⟨rfl, hw1⟩
  rw [hw1]
  clear hw1 hW3
  go_wp2_with fail
  refine (hW4 _).mono ?_
  rintro e w1 ⟨rfl, hw1⟩
  rw [hw1]
  clear hw1 hW4
  go_wp2_with fail
  go_ret
  exact ⟨rfl, HB.out⟩
set_option maxHeartbeats 2000000 in
set_option maxRecDepth 100000 in
theorem lg_mod (a : Option Addr) (cap : Nat) (n : Nat) (want next block left : Int) (w : World) (hl : n ≤ maxLen) (i1 : inP want 0 300 = true) (i2 : inP block 0 255 = true) (i3 : inP left 0 block = true) (i4 : inP next 0 15 = true) (h8 : 8 ≤ want) (h6 : 6 ≤ n) (hn : (n : Int) < want) (hm : (n - 6) % 7 ≠ 0) :
    Calls Try.prog 22 #[gtV want a n cap next block left] w fun e w' => e = .returned (.int .i64 4) ∧ Below w.heap.size w w' := by
  have HB := Hid.mk (awG w (gtC want a n cap next block left))
  unfold gtC at HB
  unfold maxLen at hl
  have hw0 : (want == 0) = false := by simp; omega
  have h8' : ¬ (want < 8) := by omega
  have h6' : ¬ ((n : Int) < 6) := by omega
  have hn' : ¬ (want ≤ (n : Int)) := by omega
  have hn3 : (n : Int) ≤ 300 := by have := inP_iff.1 i1; omega
  obtain ⟨d, hd⟩ : ∃ d, d = n - 6 := ⟨_, rfl⟩
  have hds : (n : Int) - 6 = (d : Int) := by omega
  have hd3 : (d : Int) ≤ 300 := by omega
  obtain ⟨r, hr⟩ : ∃ r, r = d % 7 := ⟨_, rfl⟩
  have hr0 : (d : Int).tmod 7 = (r : Int) := by rw [Int.tmod_eq_emod_of_nonneg (by omega)]; omega
  have hrw : IntKind.i64.wrap ((d : Int).tmod 7) = (r : Int) := by rw [hr0, IntKind.wrap_i64]; omega
  have hr6 : (r : Int) ≤ 6 := by omega
  have hm' : ((r : Int) != 0) = true := by simp; omega
  clear h8 h6 hn hm hd hr
  have hW1 := fun W => inc_any want 300 W
  simp only [i1] at hW1
  clear i1
  have hW2 := fun W => inc_any block 255 W
  simp only [i2] at hW2
  clear i2
  have hW3 := fun W => inc_any left block W
  simp only [i3] at hW3
  clear i3
  have hW4 := fun W => inc_any next 15 W
  simp only [i4] at hW4
  clear i4
  unfold gtV
  go_enter Try.func22, Try.ntmps22
  go_wp2_with fail
  refine (hW1 _).mono ?_
  rintro e w1 ⟨rfl, hw1⟩
  rw [hw1]
  clear hw1 hW1
  go_wp2_with fail
  refine (hW2 _).mono ?_
  rintro e w1 ⟨rfl, hw1⟩
  rw [hw1]
  clear hw1 hW2
  go_wp2_with fail
  refine (hW3 _).mono ?_
  rintro e w1 ⟨rfl, hw1⟩
  rw [hw1]
  clear hw1 hW3
  go_wp2_with fail
  refine (hW4 _).mono ?_
  rintro e w1 ⟨rfl, hw1⟩
  rw [hw1]
  clear hw1 hW4
  go_wp2_with fail
  go_ret
  exact ⟨rfl, HB.out⟩
set_option maxHeartbeats 2000000 in
set_option maxRecDepth 100000 in
theorem lg_num (a : Option Addr) (cap : Nat) (n : Nat) (want next block left : Int) (w : World) (hl : n ≤ maxLen) (i1 : inP want 0 300 = true) (i2 : inP block 0 255 = true) (i3 : inP left 0 block = true) (i4 : inP next 0 15 = true) (h8 : 8 ≤ want) (h6 : 6 ≤ n) (hn : (n : Int) < want) (hm : (n - 6) % 7 = 0) (hx : next ≠ (numN n : Int)) :
    Calls Try.prog 22 #[gtV want a n cap next block left] w fun e w' => e = .returned (.int .i64 4) ∧ Below w.heap.size w w' := by
  have HB := Hid.mk (awG w (gtC want a n cap next block left))
  unfold gtC at HB
  unfold maxLen at hl
  have hw0 : (want == 0) = false := by simp; omega
  have h8' : ¬ (want < 8) := by omega
  have h6' : ¬ ((n : Int) < 6) := by omega
  have hn' : ¬ (want ≤ (n : Int)) := by omega
  have hn3 : (n : Int) ≤ 300 := by have := inP_iff.1 i1; omega
  obtain ⟨d, hd⟩ : ∃ d, d = n - 6 := ⟨_, rfl⟩
  have hds : (n : Int) - 6 = (d : Int) := by omega
  have hd3 : (d : Int) ≤ 300 := by omega
  obtain ⟨r, hr⟩ : ∃ r, r = d % 7 := ⟨_, rfl⟩
  have hr0 : (d : Int).tmod 7 = (r : Int) := by rw [Int.tmod_eq_emod_of_nonneg (by omega)]; omega
  have hrw : IntKind.i64.wrap ((d : Int).tmod 7) = (r : Int) := by rw [hr0, IntKind.wrap_i64]; omega
  have hr6 : (r : Int) ≤ 6 := by omega
  have hrz : r = 0 := by omega
  subst hrz
  obtain ⟨q, hq⟩ : ∃ q, q = d / 7 := ⟨_, rfl⟩
  have hq0 : (d : Int).tdiv 7 = (q : Int) := by rw [Int.tdiv_eq_ediv_of_nonneg (by omega)]; omega
  have hqw : IntKind.i64.wrap ((d : Int).tdiv 7) = (q : Int) := by rw [hq0, IntKind.wrap_i64]; omega
  have hqb : (q : Int) ≤ 43 := by omega
  have hN0 : ((q : Int) + 1).tmod 16 = (numN n : Int) := by
    rw [Int.tmod_eq_emod_of_nonneg (by omega)]; unfold numN; omega
  have hN : IntKind.i64.wrap (((q : Int) + 1).tmod 16) = (numN n : Int) := by rw [hN0, IntKind.wrap_i64]; have := numN_lt n; omega
  have hNb := numN_lt n
  have hx' : (next != (numN n : Int)) = true := by simpa using hx
  clear h8 h6 hn hm hd hr hq hx
  generalize numN n = N at *
  have hW1 := fun W => inc_any want 300 W
  simp only [i1] at hW1
  clear i1
  have hW2 := fun W => inc_any block 255 W
  simp only [i2] at hW2
  clear i2
  have hW3 := fun W => inc_any left block W
  simp only [i3] at hW3
  clear i3
  have hW4 := fun W => inc_any next 15 W
  simp only [i4] at hW4
  clear i4
  unfold gtV
  go_enter Try.func22, Try.ntmps22
  go_wp2_with fail
  refine (hW1 _).mono ?_
  rintro e w1 ⟨rfl, hw1⟩
  rw [hw1]
  clear hw1 hW1
  go_wp2_with fail
  refine (hW2 _).mono ?_
  rintro e w1 ⟨rfl, hw1⟩
  rw [hw1]
  clear hw1 hW2
  go_wp2_with fail
  refine (hW3 _).mono ?_
  rintro e w1 ⟨rfl, hw1⟩
  rw [hw1]
  clear hw1 hW3
  go_wp2_with fail
  refine (hW4 _).mono ?_
  rintro e w1 ⟨rfl, hw1⟩
  rw [hw1]
  clear hw1 hW4
  go_wp2_with fail
  go_ret
  exact ⟨rfl, HB.out⟩
set_option maxHeartbeats 2000000 in
set_option maxRecDepth 100000 in
theorem lg_left (a : Option Addr) (cap : Nat) (n : Nat) (want next block left : Int) (w : World) (hl : n ≤ maxLen) (i1 : inP want 0 300 = true) (i2 : inP block 0 255 = true) (i3 : inP left 0 block = true) (i4 : inP next 0 15 = true) (h8 : 8 ≤ want) (h6 : 6 ≤ n) (hn : (n : Int) < want) (hm : (n - 6) % 7 = 0) (hx : next = (numN n : Int)) (hlf : left ≠ 0) :
    Calls Try.prog 22 #[gtV want a n cap next block left] w fun e w' => e = .returned (.int .i64 0) ∧ Below w.heap.size w w' := by
  have HB := Hid.mk (awG w (gtC want a n cap next block left))
  unfold gtC at HB
  unfold maxLen at hl
  have hw0 : (want == 0) = false := by simp; omega
  have h8' : ¬ (want < 8) := by omega
  have h6' : ¬ ((n : Int) < 6) := by omega
  have hn' : ¬ (want ≤ (n : Int)) := by omega
  have hn3 : (n : Int) ≤ 300 := by have := inP_iff.1 i1; omega
  obtain ⟨d, hd⟩ : ∃ d, d = n - 6 := ⟨_, rfl⟩
  have hds : (n : Int) - 6 = (d : Int) := by omega
  have hd3 : (d : Int) ≤ 300 := by omega
  obtain ⟨r, hr⟩ : ∃ r, r = d % 7 := ⟨_, rfl⟩
  have hr0 : (d : Int).tmod 7 = (r : Int) := by rw [Int.tmod_eq_emod_of_nonneg (by omega)]; omega
  have hrw : IntKind.i64.wrap ((d : Int).tmod 7) = (r : Int) := by rw [hr0, IntKind.wrap_i64]; omega
  have hr6 : (r : Int) ≤ 6 := by omega
  have hrz : r = 0 := by omega
  subst hrz
  obtain ⟨q, hq⟩ : ∃ q, q = d / 7 := ⟨_, rfl⟩
  have hq0 : (d : Int).tdiv 7 = (q : Int) := by rw [Int.tdiv_eq_ediv_of_nonneg (by omega)]; omega
  have hqw : IntKind.i64.wrap ((d : Int).tdiv 7) = (q : Int) := by rw [hq0, IntKind.wrap_i64]; omega
  have hqb : (q : Int) ≤ 43 := by omega
  have hN0 : ((q : Int) + 1).tmod 16 = (numN n : Int) := by
    rw [Int.tmod_eq_emod_of_nonneg (by omega)]; unfold numN; omega
  have hN : IntKind.i64.wrap (((q : Int) + 1).tmod 16) = (numN n : Int) := by rw [hN0, IntKind.wrap_i64]; have := numN_lt n; omega
  have hNb := numN_lt n
  have hx' : (next != (numN n : Int)) = false := by simpa using hx
  have hlf' : (left == 0) = false := by simpa using hlf
  clear h8 h6 hn hm hd hr hq hx hlf
  generalize numN n = N at *
  have hW1 := fun W => inc_any want 300 W
  simp only [i1] at hW1
  clear i1
  have hW2 := fun W => inc_any block 255 W
  simp only [i2] at hW2
  clear i2
  have hW3 := fun W => inc_any left block W
  simp only [i3] at hW3
  clear i3
  have hW4 := fun W => inc_any next 15 W
  simp only [i4] at hW4
  clear i4
  unfold gtV
  go_enter Try.func22, Try.ntmps22
  go_wp2_with fail
  refine (hW1 _).mono ?_
  rintro e w1 ⟨rfl, hw1⟩
  rw [hw1]
  clear hw1 hW1
  go_wp2_with fail
  refine (hW2 _).mono ?_
  rintro e w1 ⟨rfl, hw1⟩
  rw [hw1]
  clear hw1 hW2
  go_wp2_with fail
  refine (hW3 _).mono ?_
  rintro e w1 ⟨rfl, hw1⟩
  rw [hw1]
  clear hw1 hW3
  go_wp2_with fail
  refine (hW4 _).mono ?_
  rintro e w1 ⟨rfl, hw1⟩
  rw [hw1]
  clear hw1 hW4
  go_wp2_with fail
  go_ret
  exact ⟨rfl, HB.out⟩
set_option maxHeartbeats 2000000 in
set_option maxRecDepth 100000 in
theorem lg_block (a : Option Addr) (cap : Nat) (n : Nat) (want next block : Int) (w : World) (hl : n ≤ maxLen) (i1 : inP want 0 300 = true) (i2 : inP block 0 255 = true) (i3 : inP 0 0 block = true) (i4 : inP next 0 15 = true) (h8 : 8 ≤ want) (h6 : 6 ≤ n) (hn : (n : Int) < want) (hm : (n - 6) % 7 = 0) (hx : next = (numN n : Int)) (hb : block ≠ 0) :
    Calls Try.prog 22 #[gtV want a n cap next block 0] w fun e w' => e = .returned (.int .i64 4) ∧ Below w.heap.size w w' := by
  have HB := Hid.mk (awG w (gtC want a n cap next block 0))
  unfold gtC at HB
  unfold maxLen at hl
  have hw0 : (want == 0) = false := by simp; omega
  have h8' : ¬ (want < 8) := by omega
  have h6' : ¬ ((n : Int) < 6) := by omega
  have hn' : ¬ (want ≤ (n : Int)) := by omega
  have hn3 : (n : Int) ≤ 300 := by have := inP_iff.1 i1; omega
  obtain ⟨d, hd⟩ : ∃ d, d = n - 6 := ⟨_, rfl⟩
  have hds : (n : Int) - 6 = (d : Int) := by omega
  have hd3 : (d : Int) ≤ 300 := by omega
  obtain ⟨r, hr⟩ : ∃ r, r = d % 7 := ⟨_, rfl⟩
  have hr0 : (d : Int).tmod 7 = (r : Int) := by rw [Int.tmod_eq_emod_of_nonneg (by omega)]; omega
  have hrw : IntKind.i64.wrap ((d : Int).tmod 7) = (r : Int) := by rw [hr0, IntKind.wrap_i64]; omega
  have hr6 : (r : Int) ≤ 6 := by omega
  have hrz : r = 0 := by omega
  subst hrz
  obtain ⟨q, hq⟩ : ∃ q, q = d / 7 := ⟨_, rfl⟩
  have hq0 : (d : Int).tdiv 7 = (q : Int) := by rw [Int.tdiv_eq_ediv_of_nonneg (by omega)]; omega
  have hqw : IntKind.i64.wrap ((d : Int).tdiv 7) = (q : Int) := by rw [hq0, IntKind.wrap_i64]; omega
  have hqb : (q : Int) ≤ 43 := by omega
  have hN0 : ((q : Int) + 1).tmod 16 = (numN n : Int) := by
    rw [Int.tmod_eq_emod_of_nonneg (by omega)]; unfold numN; omega
  have hN : IntKind.i64.wrap (((q : Int) + 1).tmod 16) = (numN n : Int) := by rw [hN0, IntKind.wrap_i64]; have := numN_lt n; omega
  have hNb := numN_lt n
  have hx' : (next != (numN n : Int)) = false := by simpa using hx
  have hb' : (block != 0) = true := by simpa using hb
  clear h8 h6 hn hm hd hr hq hx hb
  generalize numN n = N at *
  have hW1 := fun W => inc_any want 300 W
  simp only [i1] at hW1
  clear i1
  have hW2 := fun W => inc_any block 255 W
  simp only [i2] at hW2
  clear i2
  have hW3 := fun W => inc_any 0 block W
  simp only [i3] at hW3
  clear i3
  have hW4 := fun W => inc_any next 15 W
  simp only [i4] at hW4
  clear i4
  unfold gtV
  go_enter Try.func22, Try.ntmps22
  go_wp2_with fail
  refine (hW1 _).mono ?_
  rintro e w1 ⟨rfl, hw1⟩
  rw [hw1]
  clear hw1 hW1
  go_wp2_with fail
  refine (hW2 _).mono ?_
  rintro e w1 ⟨rfl, hw1⟩
  rw [hw1]
  clear hw1 hW2
  go_wp2_with fail
  refine (hW3 _).mono ?_
  rintro e w1 ⟨rfl, hw1⟩
  rw [hw1]
  clear hw1 hW3
  go_wp2_with fail
  refine (hW4 _).mono ?_
  rintro e w1 ⟨rfl, hw1⟩
  rw [hw1]
  clear hw1 hW4
  go_wp2_with fail
  go_ret
  exact ⟨rfl, HB.out⟩
set_option maxHeartbeats 2000000 in
set_option maxRecDepth 100000 in
theorem lg_free (a : Option Addr) (cap : Nat) (n : Nat) (want next : Int) (w : World) (hl : n ≤ maxLen) (i1 : inP want 0 300 = true) (i2 : inP 0 0 255 = true) (i3 : inP 0 0 0 = true) (i4 : inP next 0 15 = true) (h8 : 8 ≤ want) (h6 : 6 ≤ n) (hn : (n : Int) < want) (hm : (n - 6) % 7 = 0) (hx : next = (numN n : Int)) :
    Calls Try.prog 22 #[gtV want a n cap next 0 0] w fun e w' => e = .returned (.int .i64 0) ∧ Below w.heap.size w w' := by
  have HB := Hid.mk (awG w (gtC want a n cap next 0 0))
  unfold gtC at HB
  unfold maxLen at hl
  have hw0 : (want == 0) = false := by simp; omega
  have h8' : ¬ (want < 8) := by omega
  have h6' : ¬ ((n : Int) < 6) := by omega
  have hn' : ¬ (want ≤ (n : Int)) := by omega
  have hn3 : (n : Int) ≤ 300 := by have := inP_iff.1 i1; omega
  obtain ⟨d, hd⟩ : ∃ d, d = n - 6 := ⟨_, rfl⟩
  have hds : (n : Int) - 6 = (d : Int) := by omega
  have hd3 : (d : Int) ≤ 300 := by omega
  obtain ⟨r, hr⟩ : ∃ r, r = d % 7 := ⟨_, rfl⟩
  have hr0 : (d : Int).tmod 7 = (r : Int) := by rw [Int.tmod_eq_emod_of_nonneg (by omega)]; omega
  have hrw : IntKind.i64.wrap ((d : Int).tmod 7) = (r : Int) := by rw [hr0, IntKind.wrap_i64]; omega
  have hr6 : (r : Int) ≤ 6 := by omega
  have hrz : r = 0 := by omega
  subst hrz
  obtain ⟨q, hq⟩ : ∃ q, q = d / 7 := ⟨_, rfl⟩
  have hq0 : (d : Int).tdiv 7 = (q : Int) := by rw [Int.tdiv_eq_ediv_of_nonneg (by omega)]; omega
  have hqw : IntKind.i64.wrap ((d : Int).tdiv 7) = (q : Int) := by rw [hq0, IntKind.wrap_i64]; omega
  have hqb : (q : Int) ≤ 43 := by omega
  have hN0 : ((q : Int) + 1).tmod 16 = (numN n : Int) := by
    rw [Int.tmod_eq_emod_of_nonneg (by omega)]; unfold numN; omega
  have hN : IntKind.i64.wrap (((q : Int) + 1).tmod 16) = (numN n : Int) := by rw [hN0, IntKind.wrap_i64]; have := numN_lt n; omega
  have hNb := numN_lt n
  have hx' : (next != (numN n : Int)) = false := by simpa using hx
  clear h8 h6 hn hm hd hr hq hx
  generalize numN n = N at *
  have hW1 := fun W => inc_any want 300 W
  simp only [i1] at hW1
  clear i1
  have hW2 := fun W => inc_any 0 255 W
  simp only [i2] at hW2
  clear i2
  have hW3 := fun W => inc_any 0 0 W
  simp only [i3] at hW3
  clear i3
  have hW4 := fun W => inc_any next 15 W
  simp only [i4] at hW4
  clear i4
  unfold gtV
  go_enter Try.func22, Try.ntmps22
  go_wp2_with fail
  refine (hW1 _).mono ?_
  rintro e w1 ⟨rfl, hw1⟩
  rw [hw1]
  clear hw1 hW1
  go_wp2_with fail
  refine (hW2 _).mono ?_
  rintro e w1 ⟨rfl, hw1⟩
  rw [hw1]
  clear hw1 hW2
  go_wp2_with fail
  refine (hW3 _).mono ?_
  rintro e w1 ⟨rfl, hw1⟩
  rw [hw1]
  clear hw1 hW3
  go_wp2_with fail
  refine (hW4 _).mono ?_
  rintro e w1 ⟨rfl, hw1⟩
  rw [hw1]
  clear hw1 hW4
  go_wp2_with fail
  go_ret
  exact ⟨rfl, HB.out⟩
theorem lcheckGetter_any (a : Option Addr) (n cap : Nat) (want next block left : Int) (w : World) (hl : n ≤ maxLen) :
    Calls Try.prog 22 #[gtV want a n cap next block left] w fun e w' => e = .returned (.int .i64 (gtE n want next block left)) ∧ Below w.heap.size w w' := by
  unfold gtE
  cases i1 : inP want 0 300 with
  | false => exact lg_1 a cap n want next block left w hl i1
  | true =>
    cases i2 : inP block 0 255 with
    | false => exact lg_2 a cap n want next block left w hl i1 i2
    | true =>
      cases i3 : inP left 0 block with
      | false => exact lg_3 a cap n want next block left w hl i1 i2 i3
      | true =>
        cases i4 : inP next 0 15 with
        | false => exact lg_4 a cap n want next block left w hl i1 i2 i3 i4
        | true =>
          have hI1 := inP_iff.1 i1
          unfold gtF
          by_cases hw : want = 0
          · subst hw
            rw [if_pos (rfl : (0 : Int) = 0)]
            by_cases hn : n = 0
            · subst hn
              by_cases hx : next = 0
              · subst hx
                by_cases hlf : left = 0
                · subst hlf
                  exact lg0_ok a cap block w hl i1 i2 i3 i4
                · rw [show (left == 0) = false by simpa using hlf]
                  exact lg0_left a cap block left w hl i1 i2 i3 i4 hlf
              · rw [show (next == 0) = false by simpa using hx]
                exact lg0_next a cap next block left w hl i1 i2 i3 i4 hx
            · rw [show decide (n = 0) = false by simpa using hn]
              exact lg0_n a cap n next block left w hl i1 i2 i3 i4 hn
          · rw [if_neg hw]
            by_cases h7 : want ≤ 7
            · rw [if_pos h7]
              exact lg_few a cap n want next block left w hl i1 i2 i3 i4 hw (by omega)
            · rw [if_neg h7]
              by_cases hn : want ≤ (n : Int)
              · rw [if_pos hn]
                by_cases h6 : n < 6
                · exact lg_six a cap n want next block left w hl i1 i2 i3 i4 (by omega) h6
                · exact lg_full a cap n want next block left w hl i1 i2 i3 i4 (by omega) (by omega) hn
              · rw [if_neg hn]
                by_cases h6 : n < 6
                · rw [show btw n = false by unfold btw; simp; omega]
                  exact lg_six a cap n want next block left w hl i1 i2 i3 i4 (by omega) h6
                · by_cases hm : (n - 6) % 7 = 0
                  · rw [show btw n = true by unfold btw; simp [hm]; omega]
                    by_cases hx : next = (numN n : Int)
                    · rw [show (next == (numN n : Int)) = true by simpa using hx]
                      by_cases hlf : left = 0
                      · subst hlf
                        by_cases hb : block = 0
                        · subst hb
                          exact lg_free a cap n want next w hl i1 i2 i3 i4 (by omega) (by omega) (by omega) hm hx
                        · rw [show (block == 0) = false by simpa using hb]
                          exact lg_block a cap n want next block w hl i1 i2 i3 i4 (by omega) (by omega) (by omega) hm hx hb
                      · rw [show (left == 0) = false by simpa using hlf]
                        exact lg_left a cap n want next block left w hl i1 i2 i3 i4 (by omega) (by omega) (by omega) hm hx hlf
                    · rw [show (next == (numN n : Int)) = false by simpa using hx]
                      exact lg_num a cap n want next block left w hl i1 i2 i3 i4 (by omega) (by omega) (by omega) hm hx
                  · rw [show btw n = false by unfold btw; simp [hm]]
                    exact lg_mod a cap n want next block left w hl i1 i2 i3 i4 (by omega) (by omega) (by omega) hm
set_option maxHeartbeats 4000000 in
set_option maxRecDepth 100000 in
theorem sameGetter_true (a b : Option Addr) (n m c d : Nat) (l : List UInt8) (k nx bl lf : Int) (w : World) (hA : IsBytes w a n c l) (hB : IsBytes w b m d l) :
    Calls Try.prog 25 #[gtV k a n c nx bl lf, gtV k b m d nx bl lf] w fun e w' => e = .returned (.bool true) ∧ Below w.heap.size w w' := by
  have hb2 := bl2 (awG w (gtC k a n c nx bl lf)) (awG (w.alloc (gtC k a n c nx bl lf)) (gtC k b m d nx bl lf))
  have HE := Hid.mk (equal_is (isBytes_below hA hb2) (isBytes_below hB hb2))
  have hR1 := (Row5.new w 44 (.int .i64 k) (.slice a n c) (.int .i64 nx) (.int .i64 bl) (.int .i64 lf)).kept (awG _ (gtC k b m d nx bl lf))
  have hR2 : Row5 ((w.alloc (gtC k a n c nx bl lf)).alloc (gtC k b m d nx bl lf)) (w.heap.size + 1) 44 (.int .i64 k) (.slice b m d) (.int .i64 nx) (.int .i64 bl) (.int .i64 lf) := new2P w _ _
  have HR1 := Hid.mk hR1
  have HR2 := Hid.mk hR2
  have HB := Hid.mk hb2
  unfold gtC at HE HR1 HR2 HB
  unfold gtV
  clear hA hB hb2 hR1 hR2
  go_enter Try.func25, Try.ntmps25
  go_wp2_with fail
  refine HE.out.mono ?_
  rintro e w1 ⟨rfl, hb1⟩
  obtain ⟨a0, a1, a2, a3, a4⟩ := (HR1.out.kept hb1).cells
  obtain ⟨b0, b1, b2, b3, b4⟩ := (HR2.out.kept hb1).cells
  have HB1 := Hid.mk (bl2 HB.out hb1)
  clear hb1 HE HR1 HR2 HB
  go_wp2_with fail
  go_ret
  exact ⟨by first | rfl | simp, HB1.out⟩
end Bw
end Go.Proofs.Ytljigcmhkjbhjaa
