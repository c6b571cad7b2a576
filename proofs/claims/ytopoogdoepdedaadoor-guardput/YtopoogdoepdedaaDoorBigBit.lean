/- What omnibusbig's SetBit answers where a number below 2^i gets its bit i, i below 32. -/
import Derived.Test.YtopoogdoepdedaaDoorBigXor
namespace Go.Proofs.YtopoogdoepdedaaDoor
open Go.ChangeShapes Go.WideShapes Go.ChangeAt Go.RowKit
namespace Ww
open Wm Bm

theorem mask_low (n i : Nat) (hn : n < 2 ^ i) (hi : i ≤ 31) : n &&& (4294967295 - 2 ^ i) = n := by
  have hp := Nat.two_pow_pos i
  have hle : n &&& (4294967295 - 2 ^ i) < 2 ^ i := Nat.lt_of_le_of_lt Nat.and_le_left hn
  have e1 : (4294967295 - 2 ^ i) % 2 ^ i = 2 ^ i - 1 := by
    have e32 : 4294967296 = 2 ^ i * 2 ^ (32 - i) := by rw [← Nat.pow_add, show i + (32 - i) = 32 by omega]
    have e2 : 2 ^ (32 - i) = 2 * 2 ^ (31 - i) := by rw [show 32 - i = (31 - i) + 1 by omega, Nat.pow_succ]; omega
    have hp2 := Nat.two_pow_pos (31 - i)
    have e3 : 4294967295 - 2 ^ i = (2 ^ i - 1) + 2 ^ i * (2 ^ (32 - i) - 2) := by
      have : 2 ^ i * (2 ^ (32 - i) - 2) = 2 ^ i * 2 ^ (32 - i) - 2 ^ i * 2 := Nat.mul_sub ..
      rw [this, ← e32]
      have : 2 ^ i * 2 ≤ 4294967296 := by rw [e32, e2]; exact Nat.mul_le_mul_left _ (by omega)
      omega
    rw [e3, Nat.add_mul_mod_self_left]
    exact Nat.mod_eq_of_lt (by omega)
  have e := Nat.and_mod_two_pow (a := n) (b := 4294967295 - 2 ^ i) (n := i)
  rw [Nat.mod_eq_of_lt hle, Nat.mod_eq_of_lt hn, e1, Nat.and_two_pow_sub_one_eq_mod, Nat.mod_eq_of_lt hn] at e
  exact e
theorem bit_clear (n i : Nat) (hn : n < 2 ^ i) (hi : i ≤ 31) : bits .andNot .u32 (n : Int) (2 ^ i % 4294967296) = (n : Int) := by
  have h32 : 2 ^ i ≤ 2 ^ 31 := Nat.pow_le_pow_right (by omega) hi
  have e : ((2 : Int) ^ i % 4294967296) = ((2 ^ i : Nat) : Int) := by
    rw [show (2 : Int) ^ i = ((2 ^ i : Nat) : Int) by simp]; omega
  rw [e, u32_andNot_nat n (2 ^ i) (by omega) (by omega), mask_low n i hn hi]
theorem bit_set (n i : Nat) (hn : n < 2 ^ i) (hi : i ≤ 31) : bits .or .u32 (n : Int) (bits .and .u64 1 1 % 4294967296 * 2 ^ i % 4294967296) = ((2 ^ i + n : Nat) : Int) := by
  have h32 : 2 ^ i ≤ 2 ^ 31 := Nat.pow_le_pow_right (by omega) hi
  have e1 : bits .and .u64 1 1 = 1 := by rfl
  have e : ((1 : Int) % 4294967296 * 2 ^ i % 4294967296) = ((2 ^ i : Nat) : Int) := by
    rw [show (2 : Int) ^ i = ((2 ^ i : Nat) : Int) by simp]; omega
  rw [e1, e, u32_or_nat n (2 ^ i) (by omega) (by omega)]
  congr 1
  have := Nat.two_pow_add_eq_or_of_lt hn 1
  rw [Nat.mul_one] at this
  rw [this, Nat.or_comm]

set_option maxHeartbeats 8000000 in
theorem setBit_any (gz gx nx i : Nat) (w : World) (hx : IsInt w gx nx) (hz : isStruct w gz) (h1 : 1 ≤ nx) (hnx : nx < 2 ^ i) (hi : i ≤ 31) :
    Calls Tryd.prog 33 #[.pointer (some ⟨gz, 0, none⟩), .pointer (some ⟨gx, 0, none⟩), .int .i64 i, .int .u64 1] w fun e w' => e = .returned (.pointer (some ⟨gz, 0, none⟩)) ∧ IsInt w' gz (2 ^ i + nx) ∧ Touch gz w w' := by
  obtain ⟨va, xs, hxh, hxW, hxt, hxv⟩ := hx
  have hi32 : 2 ^ i ≤ 2 ^ 31 := Nat.pow_le_pow_right (by omega) hi
  have hxl : xs.length ≤ 1 := len_of_val hxt hxv 32 (by omega) 1 (by omega)
  have hxs : xs = [nx] := by
    match xs, hxl, hxv with
    | [], _, h => simp [valW] at h; omega
    | [x], _, h => simp [valW] at h; rw [h]
  subst hxs
  have HZ := Hid.mk hz
  have HXH := Hid.mk hxh
  have HXW := Hid.mk hxW
  have hlow := low_any gx 2 va [nx] w hxh hxW (by simp) (by omega)
  obtain ⟨a, ca, rfl, hra⟩ := hxW
  have hcx := cell_of_row w gx 1 _ _ _ hxh
  simp only [List.getElem?_toArray, List.getElem?_cons_zero, List.getElem?_cons_succ] at hcx
  have HL := Hid.mk hlow
  have HNX := Hid.mk hnx
  have HI32 := Hid.mk hi32
  have hq : (i : Int) / 32 = 0 := by omega
  have hr : (i : Int) % 32 = (i : Int) := by omega
  have hii : (i : Int) ≤ 31 := by omega
  clear hra hxh hz hxv hxt hlow hnx hi32 hxl
  go_enter Tryd.func33, Tryd.ntmps33
  go_wp2_with fail
  refine HL.out.mono ?_
  rintro e w1 ⟨rfl, hown, hb1⟩
  have hc0 := hown.cellAt 0 (by omega)
  have hf0 := hown.frozenAt 0
  simp [cellsW] at hc0
  have hk1 := bit_clear nx i HNX.out hi
  have hk2 := bit_set nx i HNX.out hi
  obtain ⟨M, hM⟩ : ∃ M, M = 2 ^ i + nx := ⟨_, rfl⟩
  rw [← hM] at hk2
  have hMb : M < 4294967296 := by rw [hM]; have := HNX.out; have := HI32.out; omega
  have hnb : nx < 4294967296 := by have := HNX.out; have := HI32.out; omega
  have hst1 := hown.stored 0 (.int .u32 (nx : Int))
  have hst2 := hst1.1.stored 0 (.int .u32 (M : Int))
  have hc4 := hst1.1.cellAt 0 (by omega)
  have hf4 := hst1.1.frozenAt 0
  rw [show ((cellsW ([nx] ++ List.replicate (2 - [nx].length) 0)).set 0 (.int .u32 (nx : Int)))[0]? = some (.int .u32 (nx : Int)) by simp [cellsW]] at hc4
  have hfin := hst2.1
  rw [show (((cellsW ([nx] ++ List.replicate (2 - [nx].length) 0)).set 0 (.int .u32 (nx : Int))).set 0 (.int .u32 (M : Int))) = cellsW [M, 0] by simp [cellsW]] at hfin
  have hbel2 := ((hb1.grown hst1.2 hb1.size (fun q hq => by cases hq; exact Nat.le_refl _)).grown hst2.2 (Nat.le_trans hb1.size hst1.2.size) (fun q hq => by cases hq; exact Nat.le_refl _))
  have hWA := isW_own hfin rfl (by unfold maxLen; omega) (by intro x hx; simp at hx; omega)
  have hof := of_any gz _ [M, 0] _ (isStruct.below HZ.out hbel2) hWA (by simp) (by simp) (by simp)
  rw [show valW [M, 0] = M by simp [valW], hM] at hof
  rw [← hM] at hof
  have HOF := Hid.mk hof
  have HB2 := Hid.mk hbel2
  have HMM := Hid.mk hM
  clear HL hown hst1 hst2 hfin hbel2 hWA hof hM hMb hb1
  go_wp2_with fail
  refine HOF.out.mono ?_
  rintro e w3 ⟨rfl, hI, ht⟩
  have HI := Hid.mk hI
  clear hI
  go_wp2_with fail
  go_ret
  exact ⟨rfl, by rw [← HMM.out]; exact HI.out, (Touch.of_below HB2.out).trans ht⟩
end Ww
end Go.Proofs.YtopoogdoepdedaaDoor
