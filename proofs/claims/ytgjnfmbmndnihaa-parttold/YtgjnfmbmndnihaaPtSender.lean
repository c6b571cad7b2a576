/- What package part's CheckSender answers. -/
import Derived.Test.YtgjnfmbmndnihaaPtSplit
import Derived.BigQuiet
namespace Go.Proofs.Ytgjnfmbmndnihaa
open Go.ChangeShapes Go.WideShapes Go.ChangeAt Go.RowKit
namespace Bw
open Bm
set_option linter.unusedVariables false
def sdV (a : Option Addr) (len cap : Nat) (k next left : Int) (done : Bool) : Value := .agg #[.slice a len cap, .int .i64 k, .int .i64 next, .int .i64 left, .bool done]
def sdC (a : Option Addr) (len cap : Nat) (k next left : Int) (done : Bool) : Obj := .cells #[.slice a len cap, .int .i64 k, .int .i64 next, .int .i64 left, .bool done] 28
theorem sd_i : (Try.prog.info? 28).map (·.size) = some 5 := by kernel_rfl
theorem drP {B : Nat} {a w : World} (h : Below B a w) (n : Nat) : Below B a (w.drewN n) := by
  obtain ⟨h1, h2, h3, h4, h5⟩ := h
  exact ⟨h1, h2, h3, h4, h5⟩
/-- do a sender's fields fit together -/
def sdF (n k : Nat) (next left : Int) (done : Bool) : Bool :=
  if k = n then done && (left == 0) && (if n ≤ 7 then next == 1 else next == (numN k : Int))
  else !done && decide (7 < n) && btw k && (next == (numN k : Int))
/-- what is wrong with a sender -/
def sdE (n : Nat) (k next left : Int) (done : Bool) : Int :=
  if 300 < n then 2 else if n = 0 then 3 else if inP k 0 n = false then 3 else if inP left (-1) 255 = false then 3 else if inP next 0 15 = false then 3 else if sdF n k.toNat next left done = true then 0 else 4
set_option maxHeartbeats 2000000 in
set_option maxRecDepth 100000 in
theorem sf_all_not (a : Option Addr) (n cap k : Nat) (next left : Int) (w : World) (h3 : n ≤ 300) (hk : k ≤ n) (hkn : k = n) :
    Calls Try.prog 35 #[sdV a n cap k next left false] w fun e w' => e = .returned (.bool false) ∧ Below w.heap.size w w' := by
  have HB := Hid.mk (awG w (sdC a n cap k next left false))
  unfold sdC at HB
  unfold sdV
  subst hkn
  go_enter Try.func35, Try.ntmps35
  go_wp2_with fail
  go_ret
  exact ⟨rfl, HB.out⟩
set_option maxHeartbeats 2000000 in
set_option maxRecDepth 100000 in
theorem sf_all_left (a : Option Addr) (n cap k : Nat) (next left : Int) (w : World) (h3 : n ≤ 300) (hk : k ≤ n) (hkn : k = n) (hl : left ≠ 0) :
    Calls Try.prog 35 #[sdV a n cap k next left true] w fun e w' => e = .returned (.bool false) ∧ Below w.heap.size w w' := by
  have HB := Hid.mk (awG w (sdC a n cap k next left true))
  unfold sdC at HB
  unfold sdV
  subst hkn
  have hl' : (left != 0) = true := by simpa using hl
  clear hl
  go_enter Try.func35, Try.ntmps35
  go_wp2_with fail
  go_ret
  exact ⟨rfl, HB.out⟩
set_option maxHeartbeats 2000000 in
set_option maxRecDepth 100000 in
theorem sf_all_one (a : Option Addr) (n cap k : Nat) (next : Int) (w : World) (h3 : n ≤ 300) (hk : k ≤ n) (hkn : k = n) (h7 : n ≤ 7) :
    Calls Try.prog 35 #[sdV a n cap k next 0 true] w fun e w' => e = .returned (.bool (next == 1)) ∧ Below w.heap.size w w' := by
  have HB := Hid.mk (awG w (sdC a n cap k next 0 true))
  unfold sdC at HB
  unfold sdV
  subst hkn
  have h7' : (k : Int) ≤ 7 := by omega
  go_enter Try.func35, Try.ntmps35
  go_wp2_with fail
  go_ret
  exact ⟨rfl, HB.out⟩
set_option maxHeartbeats 2000000 in
set_option maxRecDepth 100000 in
theorem sf_all_more (a : Option Addr) (n cap k : Nat) (next : Int) (w : World) (h3 : n ≤ 300) (hk : k ≤ n) (hkn : k = n) (h7 : 7 < n) :
    Calls Try.prog 35 #[sdV a n cap k next 0 true] w fun e w' => e = .returned (.bool (next == (numN k : Int))) ∧ Below w.heap.size w w' := by
  have HB := Hid.mk (awG w (sdC a n cap k next 0 true))
  unfold sdC at HB
  unfold sdV
  subst hkn
  have h7' : ¬ ((k : Int) ≤ 7) := by omega
  have HN := Hid.mk (fun W => numberAt_any k W h3)
  have hN16 := numN_lt k
  generalize numN k = N at *
  go_enter Try.func35, Try.ntmps35
  go_wp2_with fail
  go_quiet (((go_at_call 44; refine Calls.quiet_of_same (HN.out _))))
  go_wp2_with fail
  go_ret
  exact ⟨rfl, drP HB.out _⟩
set_option maxHeartbeats 2000000 in
set_option maxRecDepth 100000 in
theorem sf_part_done (a : Option Addr) (n cap k : Nat) (next left : Int) (w : World) (h3 : n ≤ 300) (hk : k ≤ n) (hkn : k < n) :
    Calls Try.prog 35 #[sdV a n cap k next left true] w fun e w' => e = .returned (.bool false) ∧ Below w.heap.size w w' := by
  have HB := Hid.mk (awG w (sdC a n cap k next left true))
  unfold sdC at HB
  unfold sdV
  have hkn' : ((k : Int) == (n : Int)) = false := by simp; omega
  clear hkn hk
  go_enter Try.func35, Try.ntmps35
  go_wp2_with fail
  go_ret
  exact ⟨rfl, HB.out⟩
set_option maxHeartbeats 2000000 in
set_option maxRecDepth 100000 in
theorem sf_part_one (a : Option Addr) (n cap k : Nat) (next left : Int) (w : World) (h3 : n ≤ 300) (hk : k ≤ n) (hkn : k < n) (h7 : n ≤ 7) :
    Calls Try.prog 35 #[sdV a n cap k next left false] w fun e w' => e = .returned (.bool false) ∧ Below w.heap.size w w' := by
  have HB := Hid.mk (awG w (sdC a n cap k next left false))
  unfold sdC at HB
  unfold sdV
  have hkn' : ((k : Int) == (n : Int)) = false := by simp; omega
  have h7' : (n : Int) ≤ 7 := by omega
  clear hkn hk
  go_enter Try.func35, Try.ntmps35
  go_wp2_with fail
  go_ret
  exact ⟨rfl, HB.out⟩
set_option maxHeartbeats 2000000 in
set_option maxRecDepth 100000 in
theorem sf_part_no (a : Option Addr) (n cap k : Nat) (next left : Int) (w : World) (h3 : n ≤ 300) (hk : k ≤ n) (hkn : k < n) (h7 : 7 < n) (hb : btw k = false) :
    Calls Try.prog 35 #[sdV a n cap k next left false] w fun e w' => e = .returned (.bool false) ∧ Below w.heap.size w w' := by
  have HB := Hid.mk (awG w (sdC a n cap k next left false))
  unfold sdC at HB
  unfold sdV
  have hkn' : ((k : Int) == (n : Int)) = false := by simp; omega
  have h7' : ¬ ((n : Int) ≤ 7) := by omega
  have HT := Hid.mk (fun W => betweenParts_any k W (by omega))
  rw [hb] at HT
  clear hkn hk hb
  go_enter Try.func35, Try.ntmps35
  go_wp2_with fail
  go_quiet (((go_at_call 45; refine Calls.quiet_of_same (HT.out _))))
  go_wp2_with fail
  go_ret
  exact ⟨rfl, drP HB.out _⟩
set_option maxHeartbeats 2000000 in
set_option maxRecDepth 100000 in
theorem sf_part_yes (a : Option Addr) (n cap k : Nat) (next left : Int) (w : World) (h3 : n ≤ 300) (hk : k ≤ n) (hkn : k < n) (h7 : 7 < n) (hb : btw k = true) :
    Calls Try.prog 35 #[sdV a n cap k next left false] w fun e w' => e = .returned (.bool (next == (numN k : Int))) ∧ Below w.heap.size w w' := by
  have HB := Hid.mk (awG w (sdC a n cap k next left false))
  unfold sdC at HB
  unfold sdV
  have hkn' : ((k : Int) == (n : Int)) = false := by simp; omega
  have h7' : ¬ ((n : Int) ≤ 7) := by omega
  have HT := Hid.mk (fun W => betweenParts_any k W (by omega))
  rw [hb] at HT
  have HN := Hid.mk (fun W => numberAt_any k W (by omega))
  have hN16 := numN_lt k
  generalize numN k = N at *
  clear hkn hk hb
  go_enter Try.func35, Try.ntmps35
  go_wp2_with fail
  go_quiet (first | (go_at_call 45; refine Calls.quiet_of_same (HT.out _)) | (go_at_call 44; refine Calls.quiet_of_same (HN.out _)))
  go_wp2_with fail
  go_ret
  exact ⟨rfl, drP HB.out _⟩
theorem senderFits_any (a : Option Addr) (n cap k : Nat) (next left : Int) (done : Bool) (w : World) (h3 : n ≤ 300) (hk : k ≤ n) :
    Calls Try.prog 35 #[sdV a n cap k next left done] w fun e w' => e = .returned (.bool (sdF n k next left done)) ∧ Below w.heap.size w w' := by
  by_cases hkn : k = n
  · cases done with
    | false =>
      rw [show sdF n k next left false = false by unfold sdF; rw [if_pos hkn]; rfl]
      exact sf_all_not a n cap k next left w h3 hk hkn
    | true =>
      by_cases hl : left = 0
      · subst hl
        by_cases h7 : n ≤ 7
        · rw [show sdF n k next 0 true = (next == 1) by unfold sdF; rw [if_pos hkn, if_pos h7]; rfl]
          exact sf_all_one a n cap k next w h3 hk hkn h7
        · rw [show sdF n k next 0 true = (next == (numN k : Int)) by unfold sdF; rw [if_pos hkn, if_neg h7]; rfl]
          exact sf_all_more a n cap k next w h3 hk hkn (by omega)
      · rw [show sdF n k next left true = false by unfold sdF; rw [if_pos hkn, show (left == 0) = false by simpa using hl]; rfl]
        exact sf_all_left a n cap k next left w h3 hk hkn hl
  · cases done with
    | true =>
      rw [show sdF n k next left true = false by unfold sdF; rw [if_neg hkn]; rfl]
      exact sf_part_done a n cap k next left w h3 hk (by omega)
    | false =>
      by_cases h7 : n ≤ 7
      · rw [show sdF n k next left false = false by unfold sdF; rw [if_neg hkn, show decide (7 < n) = false by simpa using h7]; rfl]
        exact sf_part_one a n cap k next left w h3 hk (by omega) h7
      · cases hb : btw k with
        | false =>
          rw [show sdF n k next left false = false by unfold sdF; rw [if_neg hkn, hb]; simp]
          exact sf_part_no a n cap k next left w h3 hk (by omega) (by omega) hb
        | true =>
          rw [show sdF n k next left false = (next == (numN k : Int)) by unfold sdF; rw [if_neg hkn, hb, show decide (7 < n) = true by simp; omega]; rfl]
          exact sf_part_yes a n cap k next left w h3 hk (by omega) (by omega) hb
set_option maxHeartbeats 2000000 in
set_option maxRecDepth 100000 in
theorem cs_many (a : Option Addr) (n cap : Nat) (k next left : Int) (done : Bool) (w : World) (hl : n ≤ maxLen) (h3 : 300 < n) :
    Calls Try.prog 20 #[sdV a n cap k next left done] w fun e w' => e = .returned (.int .i64 2) ∧ Below w.heap.size w w' := by
  have HB := Hid.mk (awG w (sdC a n cap k next left done))
  unfold sdC at HB
  unfold maxLen at hl
  have h3' : (300 : Int) < (n : Int) := by omega
  unfold sdV
  go_enter Try.func20, Try.ntmps20
  go_wp2_with fail
  go_ret
  exact ⟨rfl, HB.out⟩
set_option maxHeartbeats 2000000 in
set_option maxRecDepth 100000 in
theorem cs_none (a : Option Addr) (n cap : Nat) (k next left : Int) (done : Bool) (w : World) (hl : n ≤ maxLen) (h3 : n = 0) :
    Calls Try.prog 20 #[sdV a n cap k next left done] w fun e w' => e = .returned (.int .i64 3) ∧ Below w.heap.size w w' := by
  have HB := Hid.mk (awG w (sdC a n cap k next left done))
  unfold sdC at HB
  unfold maxLen at hl
  subst h3
  unfold sdV
  go_enter Try.func20, Try.ntmps20
  go_wp2_with fail
  go_ret
  exact ⟨rfl, HB.out⟩
set_option maxHeartbeats 2000000 in
set_option maxRecDepth 100000 in
theorem cs_at (a : Option Addr) (n cap : Nat) (k next left : Int) (done : Bool) (w : World) (hl : n ≤ maxLen) (h3 : n ≤ 300) (h0 : 1 ≤ n) (i1 : inP k 0 n = false) :
    Calls Try.prog 20 #[sdV a n cap k next left done] w fun e w' => e = .returned (.int .i64 3) ∧ Below w.heap.size w w' := by
  have HB := Hid.mk (awG w (sdC a n cap k next left done))
  unfold sdC at HB
  unfold maxLen at hl
  have h3' : ¬ ((300 : Int) < (n : Int)) := by omega
  have h0' : ((n : Int) == 0) = false := by simp; omega
  clear h0
  have hW1 := fun W => pwithin_any k 0 (n : Int) W
  simp only [i1] at hW1
  clear i1
  unfold sdV
  go_enter Try.func20, Try.ntmps20
  go_wp2_with fail
  refine (hW1 _).mono ?_
  rintro e w1 ⟨rfl, hw1⟩
  rw [hw1]
  clear hw1 hW1
  go_wp2_with fail
  go_ret
  exact ⟨rfl, HB.out⟩
set_option maxHeartbeats 2000000 in
set_option maxRecDepth 100000 in
theorem cs_left (a : Option Addr) (n cap : Nat) (k next left : Int) (done : Bool) (w : World) (hl : n ≤ maxLen) (h3 : n ≤ 300) (h0 : 1 ≤ n) (i1 : inP k 0 n = true) (i2 : inP left (-1) 255 = false) :
    Calls Try.prog 20 #[sdV a n cap k next left done] w fun e w' => e = .returned (.int .i64 3) ∧ Below w.heap.size w w' := by
  have HB := Hid.mk (awG w (sdC a n cap k next left done))
  unfold sdC at HB
  unfold maxLen at hl
  have h3' : ¬ ((300 : Int) < (n : Int)) := by omega
  have h0' : ((n : Int) == 0) = false := by simp; omega
  clear h0
  have hW1 := fun W => pwithin_any k 0 (n : Int) W
  simp only [i1] at hW1
  clear i1
  have hW2 := fun W => pwithin_any left (-1) 255 W
  simp only [i2] at hW2
  clear i2
  unfold sdV
  go_enter Try.func20, Try.ntmps20
  go_wp2_with fail
  refine (hW1 _).mono ?_
  rintro e w1 ⟨rfl, hw1⟩
  rw [hw1]
  clear hw1 hW1
  go_wp2_with fail
  refine (hW2 _).mono ?_
  rintro e w1 ⟨rfl, hw1⟩
  rw [hw1]
  clear hw1 hW2
  go_wp2_with fail
  go_ret
  exact ⟨rfl, HB.out⟩
set_option maxHeartbeats 2000000 in
set_option maxRecDepth 100000 in
theorem cs_next (a : Option Addr) (n cap : Nat) (k next left : Int) (done : Bool) (w : World) (hl : n ≤ maxLen) (h3 : n ≤ 300) (h0 : 1 ≤ n) (i1 : inP k 0 n = true) (i2 : inP left (-1) 255 = true) (i3 : inP next 0 15 = false) :
    Calls Try.prog 20 #[sdV a n cap k next left done] w fun e w' => e = .returned (.int .i64 3) ∧ Below w.heap.size w w' := by
  have HB := Hid.mk (awG w (sdC a n cap k next left done))
  unfold sdC at HB
  unfold maxLen at hl
  have h3' : ¬ ((300 : Int) < (n : Int)) := by omega
  have h0' : ((n : Int) == 0) = false := by simp; omega
  clear h0
  have hW1 := fun W => pwithin_any k 0 (n : Int) W
  simp only [i1] at hW1
  clear i1
  have hW2 := fun W => pwithin_any left (-1) 255 W
  simp only [i2] at hW2
  clear i2
  have hW3 := fun W => pwithin_any next 0 15 W
  simp only [i3] at hW3
  clear i3
  unfold sdV
  go_enter Try.func20, Try.ntmps20
  go_wp2_with fail
  refine (hW1 _).mono ?_
  rintro e w1 ⟨rfl, hw1⟩
  rw [hw1]
  clear hw1 hW1
  go_wp2_with fail
  refine (hW2 _).mono ?_
  rintro e w1 ⟨rfl, hw1⟩
  rw [hw1]
  clear hw1 hW2
  go_wp2_with fail
  refine (hW3 _).mono ?_
  rintro e w1 ⟨rfl, hw1⟩
  rw [hw1]
  clear hw1 hW3
  go_wp2_with fail
  go_ret
  exact ⟨rfl, HB.out⟩
set_option maxHeartbeats 2000000 in
set_option maxRecDepth 100000 in
theorem cs_fits (a : Option Addr) (n cap : Nat) (k next left : Int) (done : Bool) (w : World) (hl : n ≤ maxLen) (h3 : n ≤ 300) (h0 : 1 ≤ n) (i1 : inP k 0 n = true) (i2 : inP left (-1) 255 = true) (i3 : inP next 0 15 = true) :
    Calls Try.prog 20 #[sdV a n cap k next left done] w fun e w' => e = .returned (.int .i64 (if sdF n k.toNat next left done = true then 0 else 4)) ∧ Below w.heap.size w w' := by
  have HB := Hid.mk (awG w (sdC a n cap k next left done))
  unfold sdC at HB
  unfold maxLen at hl
  have HF := Hid.mk (fun W => senderFits_any a n cap k.toNat next left done W h3 (by have := inP_iff.1 i1; omega))
  rw [show ((k.toNat : Nat) : Int) = k by have := inP_iff.1 i1; omega] at HF
  have h3' : ¬ ((300 : Int) < (n : Int)) := by omega
  have h0' : ((n : Int) == 0) = false := by simp; omega
  clear h0
  have hW1 := fun W => pwithin_any k 0 (n : Int) W
  simp only [i1] at hW1
  clear i1
  have hW2 := fun W => pwithin_any left (-1) 255 W
  simp only [i2] at hW2
  clear i2
  have hW3 := fun W => pwithin_any next 0 15 W
  simp only [i3] at hW3
  clear i3
  generalize sdF n k.toNat next left done = S at *
  cases S
  all_goals (unfold sdV at HF)
  all_goals (unfold sdV)
  · go_enter Try.func20, Try.ntmps20
    go_wp2_with fail
    refine (hW1 _).mono ?_
    rintro e w1 ⟨rfl, hw1⟩
    rw [hw1]
    clear hw1 hW1
    go_wp2_with fail
    refine (hW2 _).mono ?_
    rintro e w1 ⟨rfl, hw1⟩
    rw [hw1]
    clear hw1 hW2
    go_wp2_with fail
    refine (hW3 _).mono ?_
    rintro e w1 ⟨rfl, hw1⟩
    rw [hw1]
    clear hw1 hW3
    go_wp2_with fail
    refine (HF.out _).mono ?_
    rintro e w1 ⟨rfl, hb1⟩
    have HB1 := Hid.mk (bl2 HB.out hb1)
    clear hb1 HF
    go_wp2_with fail
    go_ret
    exact ⟨rfl, HB1.out⟩
  · go_enter Try.func20, Try.ntmps20
    go_wp2_with fail
    refine (hW1 _).mono ?_
    rintro e w1 ⟨rfl, hw1⟩
    rw [hw1]
    clear hw1 hW1
    go_wp2_with fail
    refine (hW2 _).mono ?_
    rintro e w1 ⟨rfl, hw1⟩
    rw [hw1]
    clear hw1 hW2
    go_wp2_with fail
    refine (hW3 _).mono ?_
    rintro e w1 ⟨rfl, hw1⟩
    rw [hw1]
    clear hw1 hW3
    go_wp2_with fail
    refine (HF.out _).mono ?_
    rintro e w1 ⟨rfl, hb1⟩
    have HB1 := Hid.mk (bl2 HB.out hb1)
    clear hb1 HF
    go_wp2_with fail
    go_ret
    exact ⟨rfl, HB1.out⟩
theorem checkSender_any (a : Option Addr) (n cap : Nat) (k next left : Int) (done : Bool) (w : World) (hl : n ≤ maxLen) :
    Calls Try.prog 20 #[sdV a n cap k next left done] w fun e w' => e = .returned (.int .i64 (sdE n k next left done)) ∧ Below w.heap.size w w' := by
  unfold sdE
  by_cases h3 : 300 < n
  · rw [if_pos h3]
    exact cs_many a n cap k next left done w hl h3
  · rw [if_neg h3]
    by_cases h0 : n = 0
    · rw [if_pos h0]
      exact cs_none a n cap k next left done w hl h0
    · rw [if_neg h0]
      cases i1 : inP k 0 n with
      | false => exact cs_at a n cap k next left done w hl (by omega) (by omega) i1
      | true =>
        cases i2 : inP left (-1) 255 with
        | false => exact cs_left a n cap k next left done w hl (by omega) (by omega) i1 i2
        | true =>
          cases i3 : inP next 0 15 with
          | false => exact cs_next a n cap k next left done w hl (by omega) (by omega) i1 i2 i3
          | true => exact cs_fits a n cap k next left done w hl (by omega) (by omega) i1 i2 i3
end Bw
end Go.Proofs.Ytgjnfmbmndnihaa
