/- What package part's CheckGetter answers. -/
import Derived.Test.YtgjnfmbmndnihaaPtVar
import Derived.BigQuiet
namespace Go.Proofs.Ytgjnfmbmndnihaa
open Go.ChangeShapes Go.WideShapes Go.ChangeAt Go.RowKit
namespace Bw
open Bm
set_option linter.unusedVariables false
/-- do a getter's fields fit together -/
def gtF (n : Nat) (want next block left : Int) : Bool :=
  if want = 0 then (decide (n = 0)) && (next == 0) && (left == 0)
  else if want ≤ 7 then false else if want ≤ (n : Int) then false else btw n && (next == (numN n : Int)) && (!(left == 0) || (block == 0))
/-- what is wrong with a getter -/
def gtE (n : Nat) (want next block left : Int) : Int :=
  if inP want 0 300 = false then 3 else if inP block 0 255 = false then 3 else if inP left 0 block = false then 3 else if inP next 0 15 = false then 3 else if gtF n want next block left = true then 0 else 4
set_option maxHeartbeats 2000000 in
set_option maxRecDepth 100000 in
theorem gf0_n (a : Option Addr) (cap : Nat) (n : Nat) (next block left : Int) (w : World) (hl : n ≤ maxLen) (h0 : n ≠ 0) :
    Calls Try.prog 40 #[gtV 0 a n cap next block left] w fun e w' => e = .returned (.bool false) ∧ Below w.heap.size w w' := by
  have HB := Hid.mk (awG w (gtC 0 a n cap next block left))
  unfold gtC at HB
  unfold gtV
  unfold maxLen at hl
  have h0' : ((n : Int) == 0) = false := by simp; omega
  clear h0
  go_enter Try.func40, Try.ntmps40
  go_wp2_with fail
  go_ret
  exact ⟨rfl, HB.out⟩
set_option maxHeartbeats 2000000 in
set_option maxRecDepth 100000 in
theorem gf0_next (a : Option Addr) (cap : Nat) (next block left : Int) (w : World) (hl : 0 ≤ maxLen) (h0 : next ≠ 0) :
    Calls Try.prog 40 #[gtV 0 a 0 cap next block left] w fun e w' => e = .returned (.bool false) ∧ Below w.heap.size w w' := by
  have HB := Hid.mk (awG w (gtC 0 a 0 cap next block left))
  unfold gtC at HB
  unfold gtV
  unfold maxLen at hl
  have h0' : (next == 0) = false := by simpa using h0
  clear h0
  go_enter Try.func40, Try.ntmps40
  go_wp2_with fail
  go_ret
  exact ⟨rfl, HB.out⟩
set_option maxHeartbeats 2000000 in
set_option maxRecDepth 100000 in
theorem gf0_left (a : Option Addr) (cap : Nat) (block left : Int) (w : World) (hl : 0 ≤ maxLen)  :
    Calls Try.prog 40 #[gtV 0 a 0 cap 0 block left] w fun e w' => e = .returned (.bool (left == 0)) ∧ Below w.heap.size w w' := by
  have HB := Hid.mk (awG w (gtC 0 a 0 cap 0 block left))
  unfold gtC at HB
  unfold gtV
  unfold maxLen at hl
  go_enter Try.func40, Try.ntmps40
  go_wp2_with fail
  go_ret
  exact ⟨rfl, HB.out⟩
set_option maxHeartbeats 2000000 in
set_option maxRecDepth 100000 in
theorem gf_few (a : Option Addr) (cap : Nat) (n : Nat) (want next block left : Int) (w : World) (hl : n ≤ maxLen) (h0 : want ≠ 0) (h7 : want ≤ 7) :
    Calls Try.prog 40 #[gtV want a n cap next block left] w fun e w' => e = .returned (.bool false) ∧ Below w.heap.size w w' := by
  have HB := Hid.mk (awG w (gtC want a n cap next block left))
  unfold gtC at HB
  unfold gtV
  unfold maxLen at hl
  have hw0 : (want == 0) = false := by simp; omega
  clear h0
  go_enter Try.func40, Try.ntmps40
  go_wp2_with fail
  go_ret
  exact ⟨rfl, HB.out⟩
set_option maxHeartbeats 2000000 in
set_option maxRecDepth 100000 in
theorem gf_full (a : Option Addr) (cap : Nat) (n : Nat) (want next block left : Int) (w : World) (hl : n ≤ maxLen) (h7 : 7 < want) (hn : want ≤ (n : Int)) :
    Calls Try.prog 40 #[gtV want a n cap next block left] w fun e w' => e = .returned (.bool false) ∧ Below w.heap.size w w' := by
  have HB := Hid.mk (awG w (gtC want a n cap next block left))
  unfold gtC at HB
  unfold gtV
  unfold maxLen at hl
  have hw0 : (want == 0) = false := by simp; omega
  have h7' : ¬ (want ≤ 7) := by omega
  clear h7
  go_enter Try.func40, Try.ntmps40
  go_wp2_with fail
  go_ret
  exact ⟨rfl, HB.out⟩
set_option maxHeartbeats 2000000 in
set_option maxRecDepth 100000 in
theorem gf_no (a : Option Addr) (cap : Nat) (n : Nat) (want next block left : Int) (w : World) (hl : n ≤ maxLen) (h7 : 7 < want) (hn : (n : Int) < want) (h3 : want ≤ 300) (hb : btw n = false) :
    Calls Try.prog 40 #[gtV want a n cap next block left] w fun e w' => e = .returned (.bool false) ∧ Below w.heap.size w w' := by
  have HB := Hid.mk (awG w (gtC want a n cap next block left))
  unfold gtC at HB
  unfold gtV
  unfold maxLen at hl
  have hw0 : (want == 0) = false := by simp; omega
  have h7' : ¬ (want ≤ 7) := by omega
  have hn' : ¬ (want ≤ (n : Int)) := by omega
  have hT := fun W => betweenParts_any n W (by omega)
  rw [hb] at hT
  clear h7 hn hb
  go_enter Try.func40, Try.ntmps40
  go_wp2_with fail
  refine (hT _).mono ?_
  rintro e w1 ⟨rfl, hw1⟩
  rw [hw1]
  clear hw1
  go_wp2_with fail
  go_ret
  exact ⟨rfl, HB.out⟩
set_option maxHeartbeats 2000000 in
set_option maxRecDepth 100000 in
theorem gf_num (a : Option Addr) (cap : Nat) (n : Nat) (want next block left : Int) (w : World) (hl : n ≤ maxLen) (h7 : 7 < want) (hn : (n : Int) < want) (h3 : want ≤ 300) (hb : btw n = true) (hx : next ≠ (numN n : Int)) :
    Calls Try.prog 40 #[gtV want a n cap next block left] w fun e w' => e = .returned (.bool false) ∧ Below w.heap.size w w' := by
  have HB := Hid.mk (awG w (gtC want a n cap next block left))
  unfold gtC at HB
  unfold gtV
  unfold maxLen at hl
  have hw0 : (want == 0) = false := by simp; omega
  have h7' : ¬ (want ≤ 7) := by omega
  have hn' : ¬ (want ≤ (n : Int)) := by omega
  have hT := fun W => betweenParts_any n W (by omega)
  rw [hb] at hT
  have HN := Hid.mk (fun W => numberAt_any n W (by omega))
  have hN16 := numN_lt n
  generalize numN n = N at *
  have hx' : (next == (N : Int)) = false := by simpa using hx
  clear h7 hn hb hx
  go_enter Try.func40, Try.ntmps40
  go_wp2_with fail
  refine (hT _).mono ?_
  rintro e w1 ⟨rfl, hw1⟩
  rw [hw1]
  clear hw1 hT
  go_wp2_with fail
  go_quiet (((go_at_call 44; refine Calls.quiet_of_same (HN.out _))))
  go_wp2_with fail
  go_ret
  exact ⟨rfl, drP HB.out _⟩
set_option maxHeartbeats 2000000 in
set_option maxRecDepth 100000 in
theorem gf_left (a : Option Addr) (cap : Nat) (n : Nat) (want next block left : Int) (w : World) (hl : n ≤ maxLen) (h7 : 7 < want) (hn : (n : Int) < want) (h3 : want ≤ 300) (hb : btw n = true) (hx : next = (numN n : Int)) (hlf : left ≠ 0) :
    Calls Try.prog 40 #[gtV want a n cap next block left] w fun e w' => e = .returned (.bool true) ∧ Below w.heap.size w w' := by
  have HB := Hid.mk (awG w (gtC want a n cap next block left))
  unfold gtC at HB
  unfold gtV
  unfold maxLen at hl
  have hw0 : (want == 0) = false := by simp; omega
  have h7' : ¬ (want ≤ 7) := by omega
  have hn' : ¬ (want ≤ (n : Int)) := by omega
  have hT := fun W => betweenParts_any n W (by omega)
  rw [hb] at hT
  have HN := Hid.mk (fun W => numberAt_any n W (by omega))
  have hN16 := numN_lt n
  generalize numN n = N at *
  have hx' : (next == (N : Int)) = true := by simpa using hx
  have hlf' : (left != 0) = true := by simpa using hlf
  clear h7 hn hb hx hlf
  go_enter Try.func40, Try.ntmps40
  go_wp2_with fail
  refine (hT _).mono ?_
  rintro e w1 ⟨rfl, hw1⟩
  rw [hw1]
  clear hw1 hT
  go_wp2_with fail
  go_quiet (((go_at_call 44; refine Calls.quiet_of_same (HN.out _))))
  go_wp2_with fail
  go_ret
  exact ⟨rfl, drP HB.out _⟩
set_option maxHeartbeats 2000000 in
set_option maxRecDepth 100000 in
theorem gf_block (a : Option Addr) (cap : Nat) (n : Nat) (want next block : Int) (w : World) (hl : n ≤ maxLen) (h7 : 7 < want) (hn : (n : Int) < want) (h3 : want ≤ 300) (hb : btw n = true) (hx : next = (numN n : Int)) :
    Calls Try.prog 40 #[gtV want a n cap next block 0] w fun e w' => e = .returned (.bool (block == 0)) ∧ Below w.heap.size w w' := by
  have HB := Hid.mk (awG w (gtC want a n cap next block 0))
  unfold gtC at HB
  unfold gtV
  unfold maxLen at hl
  have hw0 : (want == 0) = false := by simp; omega
  have h7' : ¬ (want ≤ 7) := by omega
  have hn' : ¬ (want ≤ (n : Int)) := by omega
  have hT := fun W => betweenParts_any n W (by omega)
  rw [hb] at hT
  have HN := Hid.mk (fun W => numberAt_any n W (by omega))
  have hN16 := numN_lt n
  generalize numN n = N at *
  have hx' : (next == (N : Int)) = true := by simpa using hx
  clear h7 hn hb hx
  go_enter Try.func40, Try.ntmps40
  go_wp2_with fail
  refine (hT _).mono ?_
  rintro e w1 ⟨rfl, hw1⟩
  rw [hw1]
  clear hw1 hT
  go_wp2_with fail
  go_quiet (((go_at_call 44; refine Calls.quiet_of_same (HN.out _))))
  go_wp2_with fail
  go_ret
  exact ⟨rfl, drP HB.out _⟩
theorem getterFits_any (a : Option Addr) (n cap : Nat) (want next block left : Int) (w : World) (hl : n ≤ maxLen) (h0 : 0 ≤ want) (h3 : want ≤ 300) :
    Calls Try.prog 40 #[gtV want a n cap next block left] w fun e w' => e = .returned (.bool (gtF n want next block left)) ∧ Below w.heap.size w w' := by
  unfold gtF
  by_cases hw : want = 0
  · subst hw
    rw [if_pos rfl]
    by_cases hn : n = 0
    · subst hn
      by_cases hx : next = 0
      · subst hx
        exact gf0_left a cap block left w hl
      · rw [show (next == 0) = false by simpa using hx]
        exact gf0_next a cap next block left w hl hx
    · rw [show decide (n = 0) = false by simpa using hn]
      exact gf0_n a cap n next block left w hl hn
  · rw [if_neg hw]
    by_cases h7 : want ≤ 7
    · rw [if_pos h7]
      exact gf_few a cap n want next block left w hl hw h7
    · rw [if_neg h7]
      by_cases hn : want ≤ (n : Int)
      · rw [if_pos hn]
        exact gf_full a cap n want next block left w hl (by omega) hn
      · rw [if_neg hn]
        cases hb : btw n with
        | false => exact gf_no a cap n want next block left w hl (by omega) (by omega) h3 hb
        | true =>
          by_cases hx : next = (numN n : Int)
          · rw [show (next == (numN n : Int)) = true by simpa using hx]
            by_cases hlf : left = 0
            · subst hlf
              exact gf_block a cap n want next block w hl (by omega) (by omega) h3 hb hx
            · rw [show (left == 0) = false by simpa using hlf]
              exact gf_left a cap n want next block left w hl (by omega) (by omega) h3 hb hx hlf
          · rw [show (next == (numN n : Int)) = false by simpa using hx]
            exact gf_num a cap n want next block left w hl (by omega) (by omega) h3 hb hx
set_option maxHeartbeats 2000000 in
set_option maxRecDepth 100000 in
theorem cg_1 (a : Option Addr) (n cap : Nat) (want next block left : Int) (w : World) (hl : n ≤ maxLen) (i1 : inP want 0 300 = false) :
    Calls Try.prog 23 #[gtV want a n cap next block left] w fun e w' => e = .returned (.int .i64 3) ∧ Below w.heap.size w w' := by
  have HB := Hid.mk (awG w (gtC want a n cap next block left))
  unfold gtC at HB
  have hW1 := fun W => pwithin_any want 0 300 W
  simp only [i1] at hW1
  clear i1
  unfold gtV
  go_enter Try.func23, Try.ntmps23
  go_wp2_with fail
  refine (hW1 _).mono ?_
  rintro e w1 ⟨rfl, hw1⟩
  rw [hw1]
  clear hw1 hW1
  go_wp2_with fail
  go_ret
  exact ⟨rfl, HB.out⟩
set_option maxHeartbeats 2000000 in
set_option maxRecDepth 100000 in
theorem cg_2 (a : Option Addr) (n cap : Nat) (want next block left : Int) (w : World) (hl : n ≤ maxLen) (i1 : inP want 0 300 = true) (i2 : inP block 0 255 = false) :
    Calls Try.prog 23 #[gtV want a n cap next block left] w fun e w' => e = .returned (.int .i64 3) ∧ Below w.heap.size w w' := by
  have HB := Hid.mk (awG w (gtC want a n cap next block left))
  unfold gtC at HB
  have hW1 := fun W => pwithin_any want 0 300 W
  simp only [i1] at hW1
  clear i1
  have hW2 := fun W => pwithin_any block 0 255 W
  simp only [i2] at hW2
  clear i2
  unfold gtV
  go_enter Try.func23, Try.ntmps23
  go_wp2_with fail
  refine (hW1 _).mono ?_
  rintro e w1 ⟨rfl, hw1⟩
  rw [hw1]
  clear hw1 hW1
  go_wp2_with fail
  refine (hW2 _).mono ?_
  rintro e w1 ⟨rfl, hw1⟩
  rw [hw1]
  clear hw1 hW2
  go_wp2_with fail
  go_ret
  exact ⟨rfl, HB.out⟩
set_option maxHeartbeats 2000000 in
set_option maxRecDepth 100000 in
theorem cg_3 (a : Option Addr) (n cap : Nat) (want next block left : Int) (w : World) (hl : n ≤ maxLen) (i1 : inP want 0 300 = true) (i2 : inP block 0 255 = true) (i3 : inP left 0 block = false) :
    Calls Try.prog 23 #[gtV want a n cap next block left] w fun e w' => e = .returned (.int .i64 3) ∧ Below w.heap.size w w' := by
  have HB := Hid.mk (awG w (gtC want a n cap next block left))
  unfold gtC at HB
  have hW1 := fun W => pwithin_any want 0 300 W
  simp only [i1] at hW1
  clear i1
  have hW2 := fun W => pwithin_any block 0 255 W
  simp only [i2] at hW2
  clear i2
  have hW3 := fun W => pwithin_any left 0 block W
  simp only [i3] at hW3
  clear i3
  unfold gtV
  go_enter Try.func23, Try.ntmps23
  go_wp2_with fail
  refine (hW1 _).mono ?_
  rintro e w1 ⟨rfl, hw1⟩
  rw [hw1]
  clear hw1 hW1
  go_wp2_with fail
  refine (hW2 _).mono ?_
  rintro e w1 ⟨rfl, hw1⟩
  rw [hw1]
  clear hw1 hW2
  go_wp2_with fail
  refine (hW3 _).mono ?_
  rintro e w1 ⟨rfl, hw1⟩
  rw [hw1]
  clear hw1 hW3
  go_wp2_with fail
  go_ret
  exact ⟨rfl, HB.out⟩
set_option maxHeartbeats 2000000 in
set_option maxRecDepth 100000 in
theorem cg_4 (a : Option Addr) (n cap : Nat) (want next block left : Int) (w : World) (hl : n ≤ maxLen) (i1 : inP want 0 300 = true) (i2 : inP block 0 255 = true) (i3 : inP left 0 block = true) (i4 : inP next 0 15 = false) :
    Calls Try.prog 23 #[gtV want a n cap next block left] w fun e w' => e = .returned (.int .i64 3) ∧ Below w.heap.size w w' := by
  have HB := Hid.mk (awG w (gtC want a n cap next block left))
  unfold gtC at HB
  have hW1 := fun W => pwithin_any want 0 300 W
  simp only [i1] at hW1
  clear i1
  have hW2 := fun W => pwithin_any block 0 255 W
  simp only [i2] at hW2
  clear i2
  have hW3 := fun W => pwithin_any left 0 block W
  simp only [i3] at hW3
  clear i3
  have hW4 := fun W => pwithin_any next 0 15 W
  simp only [i4] at hW4
  clear i4
  unfold gtV
  go_enter Try.func23, Try.ntmps23
  go_wp2_with fail
  refine (hW1 _).mono ?_
  rintro e w1 ⟨rfl, hw1⟩
  rw [hw1]
  clear hw1 hW1
  go_wp2_with fail
  refine (hW2 _).mono ?_
  rintro e w1 ⟨rfl, hw1⟩
  rw [hw1]
  clear hw1 hW2
  go_wp2_with fail
  refine (hW3 _).mono ?_
  rintro e w1 ⟨rfl, hw1⟩
  rw [hw1]
  clear hw1 hW3
  go_wp2_with fail
  refine (hW4 _).mono ?_
  rintro e w1 ⟨rfl, hw1⟩
  rw [hw1]
  clear hw1 hW4
  go_wp2_with fail
  go_ret
  exact ⟨rfl, HB.out⟩
set_option maxHeartbeats 2000000 in
set_option maxRecDepth 100000 in
theorem cg_yes (a : Option Addr) (n cap : Nat) (want next block left : Int) (w : World) (hl : n ≤ maxLen) (i1 : inP want 0 300 = true) (i2 : inP block 0 255 = true) (i3 : inP left 0 block = true) (i4 : inP next 0 15 = true) (hf : gtF n want next block left = true) :
    Calls Try.prog 23 #[gtV want a n cap next block left] w fun e w' => e = .returned (.int .i64 0) ∧ Below w.heap.size w w' := by
  have HB := Hid.mk (awG w (gtC want a n cap next block left))
  unfold gtC at HB
  have HF := Hid.mk (fun W => getterFits_any a n cap want next block left W hl (inP_iff.1 i1).1 (inP_iff.1 i1).2)
  rw [hf] at HF
  unfold gtV at HF
  clear hf hl
  have hW1 := fun W => pwithin_any want 0 300 W
  simp only [i1] at hW1
  clear i1
  have hW2 := fun W => pwithin_any block 0 255 W
  simp only [i2] at hW2
  clear i2
  have hW3 := fun W => pwithin_any left 0 block W
  simp only [i3] at hW3
  clear i3
  have hW4 := fun W => pwithin_any next 0 15 W
  simp only [i4] at hW4
  clear i4
  unfold gtV
  go_enter Try.func23, Try.ntmps23
  go_wp2_with fail
  refine (hW1 _).mono ?_
  rintro e w1 ⟨rfl, hw1⟩
  rw [hw1]
  clear hw1 hW1
  go_wp2_with fail
  refine (hW2 _).mono ?_
  rintro e w1 ⟨rfl, hw1⟩
  rw [hw1]
  clear hw1 hW2
  go_wp2_with fail
  refine (hW3 _).mono ?_
  rintro e w1 ⟨rfl, hw1⟩
  rw [hw1]
  clear hw1 hW3
  go_wp2_with fail
  refine (hW4 _).mono ?_
  rintro e w1 ⟨rfl, hw1⟩
  rw [hw1]
  clear hw1 hW4
  go_wp2_with fail
  refine (HF.out _).mono ?_
  rintro e w1 ⟨rfl, hb1⟩
  have HB1 := Hid.mk (bl2 HB.out hb1)
  clear hb1 HF
  go_wp2_with fail
  go_ret
  exact ⟨rfl, HB1.out⟩
set_option maxHeartbeats 2000000 in
set_option maxRecDepth 100000 in
theorem cg_no (a : Option Addr) (n cap : Nat) (want next block left : Int) (w : World) (hl : n ≤ maxLen) (i1 : inP want 0 300 = true) (i2 : inP block 0 255 = true) (i3 : inP left 0 block = true) (i4 : inP next 0 15 = true) (hf : gtF n want next block left = false) :
    Calls Try.prog 23 #[gtV want a n cap next block left] w fun e w' => e = .returned (.int .i64 4) ∧ Below w.heap.size w w' := by
  have HB := Hid.mk (awG w (gtC want a n cap next block left))
  unfold gtC at HB
  have HF := Hid.mk (fun W => getterFits_any a n cap want next block left W hl (inP_iff.1 i1).1 (inP_iff.1 i1).2)
  rw [hf] at HF
  unfold gtV at HF
  clear hf hl
  have hW1 := fun W => pwithin_any want 0 300 W
  simp only [i1] at hW1
  clear i1
  have hW2 := fun W => pwithin_any block 0 255 W
  simp only [i2] at hW2
  clear i2
  have hW3 := fun W => pwithin_any left 0 block W
  simp only [i3] at hW3
  clear i3
  have hW4 := fun W => pwithin_any next 0 15 W
  simp only [i4] at hW4
  clear i4
  unfold gtV
  go_enter Try.func23, Try.ntmps23
  go_wp2_with fail
  refine (hW1 _).mono ?_
  rintro e w1 ⟨rfl, hw1⟩
  rw [hw1]
  clear hw1 hW1
  go_wp2_with fail
  refine (hW2 _).mono ?_
  rintro e w1 ⟨rfl, hw1⟩
  rw [hw1]
  clear hw1 hW2
  go_wp2_with fail
  refine (hW3 _).mono ?_
  rintro e w1 ⟨rfl, hw1⟩
  rw [hw1]
  clear hw1 hW3
  go_wp2_with fail
  refine (hW4 _).mono ?_
  rintro e w1 ⟨rfl, hw1⟩
  rw [hw1]
  clear hw1 hW4
  go_wp2_with fail
  refine (HF.out _).mono ?_
  rintro e w1 ⟨rfl, hb1⟩
  have HB1 := Hid.mk (bl2 HB.out hb1)
  clear hb1 HF
  go_wp2_with fail
  go_ret
  exact ⟨rfl, HB1.out⟩
theorem checkGetter_any (a : Option Addr) (n cap : Nat) (want next block left : Int) (w : World) (hl : n ≤ maxLen) :
    Calls Try.prog 23 #[gtV want a n cap next block left] w fun e w' => e = .returned (.int .i64 (gtE n want next block left)) ∧ Below w.heap.size w w' := by
  unfold gtE
  cases i1 : inP want 0 300 with
  | false => exact cg_1 a n cap want next block left w hl i1
  | true =>
    cases i2 : inP block 0 255 with
    | false => exact cg_2 a n cap want next block left w hl i1 i2
    | true =>
      cases i3 : inP left 0 block with
      | false => exact cg_3 a n cap want next block left w hl i1 i2 i3
      | true =>
        cases i4 : inP next 0 15 with
        | false => exact cg_4 a n cap want next block left w hl i1 i2 i3 i4
        | true =>
          cases hf : gtF n want next block left with
          | false => exact cg_no a n cap want next block left w hl i1 i2 i3 i4 hf
          | true => exact cg_yes a n cap want next block left w hl i1 i2 i3 i4 hf
end Bw
end Go.Proofs.Ytgjnfmbmndnihaa
