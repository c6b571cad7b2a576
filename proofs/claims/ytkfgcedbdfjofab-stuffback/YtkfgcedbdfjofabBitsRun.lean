/- What bits.Run answers of any text: the length of the longest part in which all bits are alike, told by a recursion of the loop's own make, and else which error. -/
import Derived.Test.YtkfgcedbdfjofabBase8
namespace Go.Proofs.Ytkfgcedbdfjofab
open Go.ChangeShapes Go.WideShapes Go.ChangeAt Go.RowKit
namespace Bw
open Bm

/-- behind the first i bits: the longest run, and where the one that is under way began -/
def runF (l : List UInt8) : Nat → Nat × Nat
  | 0 => (0, 0)
  | i + 1 =>
    let st := if l.getD i 0 = l.getD (runF l i).2 0 then (runF l i).2 else i
    (max (runF l i).1 (i + 1 - st), st)
theorem runF_st (l : List UInt8) (i : Nat) : (runF l i).2 ≤ i ∧ (0 < i → (runF l i).2 < i) ∧ (runF l i).1 ≤ i := by
  induction i with
  | zero => exact ⟨Nat.le_refl _, fun h => absurd h (by omega), Nat.le_refl _⟩
  | succ i ih =>
    obtain ⟨h1, h2, h3⟩ := ih
    unfold runF
    dsimp only
    refine ⟨?_, ?_, ?_⟩
    · split <;> omega
    · intro _; split <;> omega
    · split <;> omega
theorem runF_succ_same (l : List UInt8) (i : Nat) (h : l.getD i 0 = l.getD (runF l i).2 0) : runF l (i + 1) = (max (runF l i).1 (i + 1 - (runF l i).2), (runF l i).2) := by
  rw [runF]; simp only [if_pos h]
theorem runF_succ_other (l : List UInt8) (i : Nat) (h : l.getD i 0 ≠ l.getD (runF l i).2 0) : runF l (i + 1) = (max (runF l i).1 1, i) := by
  rw [runF]; simp only [if_neg h]; congr 2; omega

set_option maxHeartbeats 1000000 in
theorem run_bad (s : ByteArray) (w : World) (hs : s.size ≤ maxLen) (hc : checkE s.data.toList ≠ 0) :
    Calls Try.prog 15 #[.string s] w fun e w' => e = .returned (.tuple #[.int .i64 0, .int .i64 (checkE s.data.toList)]) ∧ Below w.heap.size w w' := by
  have HS : Hid (s.size ≤ maxLen) := hs
  have hc' : (checkE s.data.toList == 0) = false := by simpa using hc
  clear hs
  go_enter Try.func15, Try.ntmps15
  go_wp2_with fail
  refine (check_any s w HS.out).mono ?_
  rintro e w1 ⟨rfl, hb1⟩
  go_wp2_with fail
  go_ret2
  exact ⟨rfl, hb1⟩

set_option maxHeartbeats 2000000 in
theorem run_ok (s : ByteArray) (w : World) (hc : checkE s.data.toList = 0) :
    Calls Try.prog 15 #[.string s] w fun e w' => e = .returned (.tuple #[.int .i64 (runF s.data.toList s.size).1, .int .i64 0]) ∧ Below w.heap.size w w' := by
  have h1000 := (small_of_check hc).1
  have hck := fun W => check_any s W (by unfold maxLen; omega)
  rw [hc] at hck
  clear hc
  go_enter Try.func15, Try.ntmps15
  go_wp2_with fail
  refine (hck w).mono ?_
  rintro e w1 ⟨rfl, hb1⟩
  clear hck
  go_wp2_with fail
  go_loopw [5, 6, 15] (fun m st i wr => ∃ k a b : Nat, k ≤ s.size ∧ i = .int .i64 k ∧ m = .int .i64 a ∧ st = .int .i64 b ∧ runF s.data.toList k = (a, b) ∧ Below w.heap.size w wr) (fun _ _ i _ => s.size - (intOf i).toNat)
  case atStart => exact ⟨0, 0, 0, Nat.zero_le _, rfl, rfl, rfl, rfl, hb1⟩
  case round =>
    obtain ⟨k, a, b, hk, rfl, rfl, rfl, hrun, hbel⟩ := hrel
    have hst := runF_st s.data.toList k
    rw [hrun] at hst
    simp only at hst
    obtain ⟨g1, g2, g3⟩ := hst
    have HR : Hid (runF s.data.toList k = (a, b)) := hrun
    clear hrun
    by_cases hlt : k < s.size
    · have hlt' : (k : Int) < (s.size : Int) := by omega
      have hb' : (b : Int) < (s.size : Int) := by omega
      have hbn : b < s.size := by omega
      clear g2
      by_cases he : s.data.toList.getD k 0 = s.data.toList.getD b 0
      · have HE : Hid (runF s.data.toList (k + 1) = (max a (k + 1 - b), b)) := by
          have := runF_succ_same s.data.toList k (by rw [HR.out]; exact he)
          rw [HR.out] at this; exact this
        have hnat : ((s[k].toNat : Int) == (s[b].toNat : Int)) = true := by
          rw [at_getD s k hlt, at_getD s b hbn, he]; simp
        clear he
        go_wp2_with fail
        go_quiet (fail)
        go_wp2_with fail
        go_roundw
        case rel => exact ⟨k + 1, max a (k + 1 - b), b, by omega, by go_num, int_eq (max_int _ _ _ (by omega)), rfl, HE.out, hbel.trans ⟨rfl, rfl, rfl, Nat.le_refl _, fun _ _ => rfl⟩⟩
        case measure => simp [intOf]; omega
      · have HE : Hid (runF s.data.toList (k + 1) = (max a 1, k)) := by
          have := runF_succ_other s.data.toList k (by rw [HR.out]; exact he)
          rw [HR.out] at this; exact this
        have hnat : ((s[k].toNat : Int) == (s[b].toNat : Int)) = false := by
          rw [at_getD s k hlt, at_getD s b hbn]
          have : (s.data.toList.getD k 0).toNat ≠ (s.data.toList.getD b 0).toNat := fun h => he (UInt8.toNat_inj.1 h)
          simp only [beq_eq_false_iff_ne, ne_eq]; omega
        clear he
        go_wp2_with fail
        go_quiet (fail)
        go_wp2_with fail
        go_roundw
        case rel => exact ⟨k + 1, max a 1, k, by omega, by go_num, int_eq (max_int _ _ _ (by omega)), rfl, HE.out, hbel.trans ⟨rfl, rfl, rfl, Nat.le_refl _, fun _ _ => rfl⟩⟩
        case measure => simp [intOf]; omega
    · have e : k = s.size := by omega
      subst e
      go_wp2_with fail
      go_ret2
      exact ⟨by rw [HR.out]; rfl, hbel⟩
end Bw
end Go.Proofs.Ytkfgcedbdfjofab
