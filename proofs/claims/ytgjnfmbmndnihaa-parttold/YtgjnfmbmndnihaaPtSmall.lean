/- What package part's small functions answer. -/
import Derived.Test.YtgjnfmbmndnihaaPtMath
import Derived.Test.YtgjnfmbmndnihaaGdCloneB
import Derived.Laws.AppendOwnNone
namespace Go.Proofs.Ytgjnfmbmndnihaa
open Go.ChangeShapes Go.WideShapes Go.ChangeAt Go.RowKit
namespace Bw
open Bm
def inP (n lo hi : Int) : Bool := decide (lo ≤ n) && decide (n ≤ hi)
theorem inP_yes {n lo hi : Int} (h : lo ≤ n ∧ n ≤ hi) : inP n lo hi = true := by unfold inP; simp [h.1, h.2]
theorem inP_no {n lo hi : Int} (h : ¬ (lo ≤ n ∧ n ≤ hi)) : inP n lo hi = false := by
  cases e : inP n lo hi with
  | false => rfl
  | true => unfold inP at e; simp at e; exact absurd e h
theorem inP_iff {n lo hi : Int} : inP n lo hi = true ↔ lo ≤ n ∧ n ≤ hi := by unfold inP; simp
theorem pwithin_any (n lo hi : Int) (w : World) :
    Calls Try.prog 33 #[.int .i64 n, .int .i64 lo, .int .i64 hi] w fun e w' => e = .returned (.bool (inP n lo hi)) ∧ w' = w := by
  by_cases h0 : lo ≤ n
  · by_cases h1 : n ≤ hi
    · rw [inP_yes ⟨h0, h1⟩]
      go_enter Try.func33, Try.ntmps33
      go_wp2_with fail
      go_ret
      exact ⟨rfl, rfl⟩
    · rw [inP_no (fun h => h1 h.2)]
      go_enter Try.func33, Try.ntmps33
      go_wp2_with fail
      go_ret
      exact ⟨rfl, rfl⟩
  · rw [inP_no (fun h => h0 h.1)]
    go_enter Try.func33, Try.ntmps33
    go_wp2_with fail
    go_ret
    exact ⟨rfl, rfl⟩
theorem pcheckSize_any (a : Option Addr) (len cap : Nat) (w : World) (hl : len ≤ maxLen) :
    Calls Try.prog 27 #[.slice a len cap] w fun e w' => e = .returned (.int .i64 (szP len)) ∧ w' = w := by
  unfold maxLen at hl
  by_cases h0 : len = 0
  · subst h0
    rw [show szP 0 = 7 from rfl]
    go_enter Try.func27, Try.ntmps27
    go_wp2_with fail
    go_ret
    exact ⟨rfl, rfl⟩
  · by_cases h1 : 300 < len
    · rw [show szP len = 2 by unfold szP; rw [if_neg h0, if_pos h1]]
      have h0' : ((len : Int) == 0) = false := by simp; omega
      have h1' : (300 : Int) < (len : Int) := by omega
      clear h0
      go_enter Try.func27, Try.ntmps27
      go_wp2_with fail
      go_ret
      exact ⟨rfl, rfl⟩
    · rw [show szP len = 0 by unfold szP; rw [if_neg h0, if_neg h1]]
      have h0' : ((len : Int) == 0) = false := by simp; omega
      have h1' : ¬ ((300 : Int) < (len : Int)) := by omega
      clear h0
      go_enter Try.func27, Try.ntmps27
      go_wp2_with fail
      go_ret
      exact ⟨rfl, rfl⟩
theorem inFirst_any (a : Option Addr) (len cap : Nat) (w : World) (hl : len ≤ maxLen) :
    Calls Try.prog 29 #[.slice a len cap] w fun e w' => e = .returned (.int .i64 (inF len)) ∧ w' = w := by
  unfold maxLen at hl
  by_cases h0 : len ≤ 7
  · rw [show inF len = len by unfold inF; rw [if_pos h0]]
    have h0' : (len : Int) ≤ 7 := by omega
    go_enter Try.func29, Try.ntmps29
    go_wp2_with fail
    go_ret
    exact ⟨rfl, rfl⟩
  · rw [show inF len = 6 by unfold inF; rw [if_neg h0]]
    have h0' : ¬ ((len : Int) ≤ 7) := by omega
    go_enter Try.func29, Try.ntmps29
    go_wp2_with fail
    go_ret
    exact ⟨rfl, rfl⟩
theorem or_row : ((List.range 3).all fun k => (List.range 16).all fun n => (bits .or .i64 ((k : Int) * 16) (n : Int) == ((16 * k + n : Nat) : Int))) = true := by kernel_rfl
theorem or_op {k n : Nat} (hk : k < 3) (hn : n < 16) : bits .or .i64 ((k : Int) * 16) (n : Int) = ((16 * k + n : Nat) : Int) :=
  eq_of_beq (List.all_eq_true.1 (List.all_eq_true.1 or_row k (List.mem_range.2 hk)) n (List.mem_range.2 hn))
theorem or_0 {n : Nat} (hn : n < 16) : bits .or .i64 0 (n : Int) = (n : Int) := by
  have h := or_op (k := 0) (by decide) hn
  rw [show 16 * 0 + n = n by omega] at h
  exact h
theorem or_1 {n : Nat} (hn : n < 16) : bits .or .i64 16 (n : Int) = ((16 + n : Nat) : Int) := or_op (k := 1) (by decide) hn
theorem or_2 {n : Nat} (hn : n < 16) : bits .or .i64 32 (n : Int) = ((32 + n : Nat) : Int) := or_op (k := 2) (by decide) hn
theorem head0_any (n : Nat) (w : World) (hn : n < 16) :
    Calls Try.prog 43 #[.int .i64 0, .int .i64 n] w fun e w' => e = .returned (.int .u8 (n : Int)) ∧ w' = w := by
  have h1 := or_0 hn
  have h2 : (n : Int) ≤ 15 := by omega
  go_enter Try.func43, Try.ntmps43
  go_wp2_with fail
  go_ret
  exact ⟨by first | rfl | (congr 2; omega), rfl⟩
theorem head1_any (n : Nat) (w : World) (hn : n < 16) :
    Calls Try.prog 43 #[.int .i64 1, .int .i64 n] w fun e w' => e = .returned (.int .u8 ((16 + n : Nat) : Int)) ∧ w' = w := by
  have h1 := or_1 hn
  obtain ⟨m, hm⟩ : ∃ m, m = 16 + n := ⟨_, rfl⟩
  rw [← hm] at h1 ⊢
  have h2 : (m : Int) ≤ 31 := by omega
  clear hm
  go_enter Try.func43, Try.ntmps43
  go_wp2_with fail
  go_ret
  exact ⟨by first | rfl | (congr 2; omega), rfl⟩
theorem head2_any (n : Nat) (w : World) (hn : n < 16) :
    Calls Try.prog 43 #[.int .i64 2, .int .i64 n] w fun e w' => e = .returned (.int .u8 ((32 + n : Nat) : Int)) ∧ w' = w := by
  have h1 := or_2 hn
  obtain ⟨m, hm⟩ : ∃ m, m = 32 + n := ⟨_, rfl⟩
  rw [← hm] at h1 ⊢
  have h2 : (m : Int) ≤ 47 := by omega
  clear hm
  go_enter Try.func43, Try.ntmps43
  go_wp2_with fail
  go_ret
  exact ⟨by first | rfl | (congr 2; omega), rfl⟩
theorem numberAt_any (n : Nat) (w : World) (hn : n ≤ 300) :
    Calls Try.prog 44 #[.int .i64 n] w fun e w' => e = .returned (.int .i64 (numN n)) ∧ w' = w := by
  have hq : IntKind.i64.wrap ((n : Int).tdiv 7) = ((n / 7 : Nat) : Int) := by
    rw [Int.tdiv_eq_ediv_of_nonneg (by omega), IntKind.wrap_i64]; omega
  have hq0 : (n : Int).tdiv 7 = ((n / 7 : Nat) : Int) := by
    rw [Int.tdiv_eq_ediv_of_nonneg (by omega)]; omega
  obtain ⟨q, hqe⟩ : ∃ q, q = n / 7 := ⟨_, rfl⟩
  rw [← hqe] at hq hq0
  have hr0 : (1 + (q : Int)).tmod 16 = (numN n : Int) := by
    rw [Int.tmod_eq_emod_of_nonneg (by omega)]; unfold numN; rw [← hqe]; omega
  have hr : IntKind.i64.wrap ((1 + (q : Int)).tmod 16) = (numN n : Int) := by
    rw [hr0, IntKind.wrap_i64]; have := numN_lt n; omega
  have hn' : (n : Int) ≤ 300 := by omega
  have hq' : (q : Int) ≤ 42 := by omega
  have hN := numN_lt n
  clear hqe
  generalize numN n = N at *
  have hN' : (N : Int) ≤ 15 := by omega
  have e1 : (n : Int) - 6 + 7 - 1 = (n : Int) := by omega
  go_enter Try.func44, Try.ntmps44
  go_wp2_with fail
  go_ret
  exact ⟨by first | rfl | (congr 2; omega), rfl⟩
/-- so many bytes are those of a first part and of whole next ones -/
def btw (n : Nat) : Bool := decide (6 ≤ n) && decide ((n - 6) % 7 = 0)
theorem betweenParts_any (n : Nat) (w : World) (hn : n ≤ 300) :
    Calls Try.prog 45 #[.int .i64 n] w fun e w' => e = .returned (.bool (btw n)) ∧ w' = w := by
  have hn' : (n : Int) ≤ 300 := by omega
  by_cases h0 : 6 ≤ n
  · have hr : IntKind.i64.wrap (((n : Int) - 6).tmod 7) = (((n - 6) % 7 : Nat) : Int) := by
      rw [Int.tmod_eq_emod_of_nonneg (by omega), IntKind.wrap_i64]; omega
    have hr0 : ((n : Int) - 6).tmod 7 = (((n - 6) % 7 : Nat) : Int) := by
      rw [Int.tmod_eq_emod_of_nonneg (by omega)]; omega
    have h0' : (6 : Int) ≤ (n : Int) := by omega
    by_cases h1 : (n - 6) % 7 = 0
    · rw [show btw n = true by unfold btw; simp [h0, h1]]
      rw [h1] at hr hr0
      clear h1
      go_enter Try.func45, Try.ntmps45
      go_wp2_with fail
      go_ret
      exact ⟨rfl, rfl⟩
    · rw [show btw n = false by unfold btw; simp [h1]]
      obtain ⟨r, hre⟩ : ∃ r, r = (n - 6) % 7 := ⟨_, rfl⟩
      rw [← hre] at hr hr0 h1
      have h2 : ((r : Int) == 0) = false := by simp; omega
      have h3 : (r : Int) ≤ 6 := by omega
      clear h1 hre
      go_enter Try.func45, Try.ntmps45
      go_wp2_with fail
      go_ret
      exact ⟨rfl, rfl⟩
  · rw [show btw n = false by unfold btw; simp [h0]]
    have h0' : ¬ ((6 : Int) ≤ (n : Int)) := by omega
    go_enter Try.func45, Try.ntmps45
    go_wp2_with fail
    go_ret
    exact ⟨rfl, rfl⟩
theorem add0P (p : Addr) : p.add 0 = p := by unfold Addr.add; simp
theorem add1P (p : Addr) : p.add 1 = ⟨p.block, p.off + 1, none⟩ := by unfold Addr.add; simp
theorem lower_any (x : Addr) (len cap : Nat) (c : Nat) (w : World) (hl : 0 < len) (hc : c < 256) (h : w.cell? x = some (.int .u8 (c : Int))) :
    Calls Try.prog 46 #[.slice (some x) len cap] w fun e w' => e = .returned (.int .i64 ((c % 16 : Nat) : Int)) ∧ w' = w := by
  have hr0 : (c : Int).tmod 16 = ((c % 16 : Nat) : Int) := by
    rw [Int.tmod_eq_emod_of_nonneg (by omega)]; omega
  have hr : IntKind.i64.wrap ((c : Int).tmod 16) = ((c % 16 : Nat) : Int) := by
    rw [hr0, IntKind.wrap_i64]; omega
  obtain ⟨r, hre⟩ : ∃ r, r = c % 16 := ⟨_, rfl⟩
  rw [← hre] at hr hr0 ⊢
  have h3 : (r : Int) ≤ 15 := by omega
  have hc' : (c : Int) ≤ 255 := by omega
  clear hre
  go_enter Try.func46, Try.ntmps46
  go_wp2_with fail
  go_ret
  exact ⟨by first | rfl | (congr 2; omega), rfl⟩
/-- how many may go when one of left went -/
def lbI (n : Int) : Int := if n = 0 then 0 else if n = 1 then -1 else n - 1
theorem leftBehind_any (n : Int) (w : World) (h0 : -1 ≤ n) (h1 : n ≤ 255) :
    Calls Try.prog 34 #[.int .i64 n] w fun e w' => e = .returned (.int .i64 (lbI n)) ∧ w' = w := by
  by_cases e0 : n = 0
  · subst e0
    rw [show lbI 0 = 0 from rfl]
    go_enter Try.func34, Try.ntmps34
    go_wp2_with fail
    go_ret
    exact ⟨rfl, rfl⟩
  · by_cases e1 : n = 1
    · subst e1
      rw [show lbI 1 = -1 from rfl]
      go_enter Try.func34, Try.ntmps34
      go_wp2_with fail
      go_ret
      exact ⟨rfl, rfl⟩
    · rw [show lbI n = n - 1 by unfold lbI; rw [if_neg e0, if_neg e1]]
      have e0' : (n == 0) = false := by simpa using e0
      have e1' : (n == 1) = false := by simpa using e1
      clear e0 e1
      go_enter Try.func34, Try.ntmps34
      go_wp2_with fail
      go_ret
      exact ⟨by first | rfl | (congr 2; omega), rfl⟩
end Bw
end Go.Proofs.Ytgjnfmbmndnihaa
