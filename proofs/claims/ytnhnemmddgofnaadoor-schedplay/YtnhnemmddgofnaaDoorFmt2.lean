/- What strconv.FormatInt answers in base 2 of a number from 0 on: its bits, the one that counts most first, none of them too many. -/
import Derived.Test.YtnhnemmddgofnaaDoorC2
namespace Go.Proofs.YtnhnemmddgofnaaDoor
open Go.ChangeShapes Go.WideShapes Go.ChangeAt Go.RowKit
namespace Bw
open Bm

set_option maxHeartbeats 1000000 in
theorem tz2 (w : World) (h : w.cell? ⟨5, 1, none⟩ = some (.int .u8 1)) :
    Calls Tryd.prog 99 #[.int .u64 2] w fun e w' => e = .returned (.int .i64 1) ∧ w' = w := by
  have hq : IntKind.u64.wrap (bits .and .u64 2 (IntKind.u64.wrap (-2)) * 285870213051353865) / 288230376151711744 = 1 := by kernel_rfl
  go_enter Tryd.func99, Tryd.ntmps99
  go_wp2
  go_ret
  exact ⟨rfl, rfl⟩
set_option maxHeartbeats 400000 in
theorem pow2_yes (w : World) : Calls Tryd.prog 98 #[.int .i64 2] w fun e w' => e = .returned (.bool true) ∧ w' = w := by
  have hq : bits .and .i64 2 1 = 0 := by kernel_rfl
  go_enter Tryd.func98, Tryd.ntmps98
  go_wp2
  go_ret
  exact ⟨rfl, rfl⟩

theorem and_one_u (x : Nat) (h1 : x < 2 ^ 63) : bits .and .u64 (x : Int) 1 = (x : Int) % 2 := by
  have := bits_mask .u64 63 (by decide) (fun n h0 h1 => by simp only [IntKind.wrap, IntKind.bits, IntKind.signed]; simp; omega) 1 (by decide) x (by omega) (by omega)
  simpa using this

theorem arr_t : Tryd.prog.underlying 142 = some (.array (Tryd.prog.arrayLen 142) (Tryd.prog.elem 142)) := by kernel_rfl
theorem arr_len : Tryd.prog.arrayLen 142 = 65 := by kernel_rfl
theorem arr_size (W : World) : (sizeOf (Tryd.prog.elem 142)).run Tryd.prog W = .ok 1 W := by kernel_rfl

/-- the array of the digits: from the place 65 - j on they stand -/
def Digs (wr : World) (B n j : Nat) : Prop :=
  ∃ cur : Array Value, wr.heap[B]? = some (.cells cur 142 (0, 0)) ∧ cur.size = 65 ∧ ∀ p, 65 - j ≤ p → p < 65 → cur[p]? = some (.int .u8 (bitAt n (64 - p)).toNat)

set_option maxHeartbeats 2000000 in
theorem formatBits2 (n : Nat) (w : World) (h : w.cell? ⟨5, 1, none⟩ = some (.int .u8 1)) (hn : n < 2 ^ 63) :
    Calls Tryd.prog 84 #[.slice none 0 0, .int .u64 n, .int .i64 2, .bool false, .bool false] w fun e w' => ∃ j, j ≤ 63 ∧ n < 2 ^ (j + 1) ∧ (j = 0 ∨ 2 ^ j ≤ n) ∧ e = .returned (.tuple #[.slice none 0 0, .string ⟨(bitsHead n (j + 1) (j + 1)).toArray⟩]) ∧ Below w.heap.size w w' := by
  have H := Hid.mk h
  clear h
  go_enter Tryd.func84, Tryd.ntmps84
  go_wp2_with fail
  refine (pow2_yes _).mono ?_
  rintro e w1 ⟨rfl, rfl⟩
  go_wp2_with fail
  refine (tz2 _ (cell_kept ((Below.refl _ _).alloc (Nat.le_refl _) _) H.out)).mono ?_
  rintro e w1 ⟨rfl, rfl⟩
  go_wp2_with fail
  go_loopw [1, 13] (fun u i wr => ∃ j u' ii : Nat, u' = n / 2 ^ j ∧ (j = 0 ∨ 1 ≤ u') ∧ ii + j = 65 ∧ j ≤ 62 ∧ u = .int .u64 u' ∧ i = .int .i64 ii ∧ Digs wr w.heap.size n j ∧ Below w.heap.size w wr) (fun u _ _ => (intOf u).toNat)
  case atStart => exact ⟨0, n, 65, by simp, Or.inl rfl, rfl, by omega, rfl, rfl, ⟨_, heap_alloc_new w _, by kernel_rfl, fun p h1 h2 => by omega⟩, (Below.refl _ _).alloc (Nat.le_refl _) _⟩
  case round =>
    obtain ⟨j, u', ii, hu, hju, hij, hj62, rfl, rfl, ⟨cur, hcur, hcs, hdig⟩, hbel⟩ := hrel
    have HU := Hid.mk hu
    have HD := Hid.mk hdig
    have hle : u' ≤ n := by rw [hu]; exact Nat.div_le_self _ _
    clear hu hdig
    by_cases h2 : 2 ≤ u'
    · have hj61 : j ≤ 61 := by
        rcases Nat.lt_or_ge j 62 with h | h
        · omega
        · exfalso
          have h3 : j = 62 := by omega
          subst h3
          have := HU.out
          have h4 : n / 2 ^ 62 < 2 := Nat.div_lt_of_lt_mul (by omega)
          omega
      have hc := cell_of_row wr w.heap.size (ii - 1) cur _ _ hcur
      have hlt : ii - 1 < cur.size := by omega
      obtain ⟨cv, hcv⟩ : ∃ cv, cur[ii - 1]? = some cv := ⟨_, Array.getElem?_eq_getElem hlt⟩
      rw [hcv] at hc
      clear hcv
      have hf := frozen_of_row wr w.heap.size (ii - 1) cur _ hcur
      have hu63 : (u' : Int) < 9223372036854775808 := by omega
      have hcell := heap_setCell_same wr w.heap.size (ii - 1) cur _ (.int .u8 (bitAt n j).toNat) hcur
      have hD2 : Digs (wr.setCell ⟨w.heap.size, ii - 1, none⟩ (.int .u8 (bitAt n j).toNat)) w.heap.size n (j + 1) := by
        refine ⟨_, hcell, by simpa using hcs, fun p h1 h3 => ?_⟩
        rw [Array.getElem?_setIfInBounds]
        by_cases e : ii - 1 = p
        · rw [if_pos e, if_pos (by omega)]
          have : 64 - p = j := by omega
          rw [this]
        · rw [if_neg e]
          exact HD.out p (by omega) h3
      have hb2 : Below w.heap.size w (wr.setCell ⟨w.heap.size, ii - 1, none⟩ (.int .u8 (bitAt n j).toNat)) := hbel.setCell (Nat.le_refl _) _
      have HD2 := Hid.mk hD2
      have HB2 := Hid.mk hb2
      have HB1 := Hid.mk hbel
      have hi1 : 3 ≤ (ii : Int) := by omega
      have hi2 : (ii : Int) ≤ 65 := by omega
      have h2' : 2 ≤ (u' : Int) := by omega
      have HIJ := Hid.mk hij
      have HJU := Hid.mk hju
      clear hD2 hb2 hcell hbel HD hcur hcs hij hju hlt
      rcases Nat.mod_two_eq_zero_or_one u' with hm | hm
      · have hand : bits .and .u64 (u' : Int) 1 = 0 := by rw [and_one_u u' (by omega)]; omega
        have HBit : Hid (bitAt n j = 48) := by show _ = _; unfold bitAt; rw [if_neg (by have := HU.out; omega)]
        have HM := Hid.mk hm
        have HJ := Hid.mk hj61
        clear hm hn hj61 hj62
        go_wp2_with fail
        go_roundw
        case rel => exact ⟨j + 1, u' / 2, ii - 1, by rw [HU.out, Nat.pow_succ, Nat.div_div_eq_div_mul], Or.inr (by omega), (by have := HIJ.out; omega), (by have := HJ.out; omega), by go_num, by go_num, (by have := HD2.out; rw [HBit.out] at this; exact this), (by have := HB2.out; rw [HBit.out] at this; exact this)⟩
        case measure => simp [intOf]; omega
      · have hand : bits .and .u64 (u' : Int) 1 = 1 := by rw [and_one_u u' (by omega)]; omega
        have HBit : Hid (bitAt n j = 49) := by show _ = _; unfold bitAt; rw [if_pos (by have := HU.out; omega)]
        have HM := Hid.mk hm
        have HJ := Hid.mk hj61
        clear hm hn hj61 hj62
        go_wp2_with fail
        go_roundw
        case rel => exact ⟨j + 1, u' / 2, ii - 1, by rw [HU.out, Nat.pow_succ, Nat.div_div_eq_div_mul], Or.inr (by omega), (by have := HIJ.out; omega), (by have := HJ.out; omega), by go_num, by go_num, (by have := HD2.out; rw [HBit.out] at this; exact this), (by have := HB2.out; rw [HBit.out] at this; exact this)⟩
        case measure => simp [intOf]; omega
    · have hc := cell_of_row wr w.heap.size (ii - 1) cur _ _ hcur
      have hlt : ii - 1 < cur.size := by omega
      obtain ⟨cv, hcv⟩ : ∃ cv, cur[ii - 1]? = some cv := ⟨_, Array.getElem?_eq_getElem hlt⟩
      rw [hcv] at hc
      clear hcv
      have hf := frozen_of_row wr w.heap.size (ii - 1) cur _ hcur
      have hcell := heap_setCell_same wr w.heap.size (ii - 1) cur _ (.int .u8 (bitAt n j).toNat) hcur
      obtain ⟨c2, hc2, hs2, hd2⟩ : Digs (wr.setCell ⟨w.heap.size, ii - 1, none⟩ (.int .u8 (bitAt n j).toNat)) w.heap.size n (j + 1) := by
        refine ⟨_, hcell, by simpa using hcs, fun p h1 h3 => ?_⟩
        rw [Array.getElem?_setIfInBounds]
        by_cases e : ii - 1 = p
        · rw [if_pos e, if_pos (by omega)]
          have : 64 - p = j := by omega
          rw [this]
        · rw [if_neg e]
          exact HD.out p (by omega) h3
      have hb2 : Below w.heap.size w (wr.setCell ⟨w.heap.size, ii - 1, none⟩ (.int .u8 (bitAt n j).toNat)) := hbel.setCell (Nat.le_refl _) _
      have hconv := run_convert_bytes_back (P := Tryd.prog) (wr.setCell ⟨w.heap.size, ii - 1, none⟩ (.int .u8 (bitAt n j).toNat)) 78 9 5 ⟨w.heap.size, ii - 1, none⟩ (j + 1) (bitsHead n (j + 1) (j + 1)) Tryd.underlying78 Tryd.underlying5 Tryd.underlying9 (fun q hq => by
        rw [bitsHead_length] at hq
        rw [Addr.add_lit, cell_of_row _ w.heap.size (ii - 1 + q) c2 _ _ hc2, hd2 (ii - 1 + q) (by omega) (by omega)]
        have e1 : 64 - (ii - 1 + q) = j + 1 - 1 - q := by omega
        rw [e1]
        simp [bitsHead])
      rw [bitsHead_length] at hconv
      have hlt2 : n < 2 ^ (j + 1) := by
        have h3 : n / 2 ^ j < 2 := by have := HU.out; omega
        have h4 : n / 2 ^ j + 1 ≤ 2 := h3
        have h5 : n < 2 ^ j * 2 := Nat.lt_of_lt_of_le (Nat.lt_mul_div_succ n (Nat.two_pow_pos j)) (Nat.mul_le_mul_left _ h4)
        rw [Nat.pow_succ]; exact h5
      have hge : j = 0 ∨ 2 ^ j ≤ n := by
        rcases hju with h | h
        · exact Or.inl h
        · exact Or.inr (by have := HU.out; rcases Nat.lt_or_ge n (2 ^ j) with h' | h'; (rw [Nat.div_eq_of_lt h'] at this; omega); exact h')
      have hi1 : 3 ≤ (ii : Int) := by omega
      have hi2 : (ii : Int) ≤ 65 := by omega
      have hJ1 : (65 : Int) - ((ii : Int) - 1) = ((j + 1 : Nat) : Int) := by omega
      have HB2 := Hid.mk hb2
      have HG := Hid.mk hge
      have HL := Hid.mk hlt2
      have HJ := Hid.mk hj62
      have hsl : ∀ W, (Instr.sliceAt 142 (.pointer (some ⟨w.heap.size, 0, none⟩)) (some (.int .i64 ((ii : Int) - 1))) none none).run Tryd.prog W = .ok (.slice (some ⟨w.heap.size, ii - 1, none⟩) (j + 1) (j + 1)) W := by
        intro W
        rw [run_sliceAt_array_l W 142 ⟨w.heap.size, 0, none⟩ arr_t .i64 ((ii : Int) - 1) (by omega) (by rw [arr_len]; omega), arr_size W, arr_len]
        simp only [Result.andThen, slicedAt]
        have e1 : ((ii : Int) - 1).toNat = ii - 1 := by omega
        have e2 : 65 - (ii - 1) = j + 1 := by omega
        rw [e1, e2, if_neg (by omega), Nat.mul_one, Addr.add_lit, Nat.zero_add]
      have HCv := Hid.mk hconv
      clear hb2 hcell hbel HD hcur hcs hju hlt hc2 hd2 hs2 hge hlt2 hconv hj62
      rcases (show u' = 0 ∨ u' = 1 by omega) with rfl | rfl
      · have HBit : Hid (bitAt n j = 48) := by show _ = _; unfold bitAt; rw [if_neg (by have := HU.out; omega)]
        have hcv := HCv.out
        rw [HBit.out, show ((48 : UInt8).toNat : Int) = 48 from rfl] at hcv
        have hd0 : ((ByteArray.mk #[48, 49, 50, 51, 52, 53, 54, 55, 56, 57, 97, 98, 99, 100, 101, 102, 103, 104, 105, 106, 107, 108, 109, 110, 111, 112, 113, 114, 115, 116, 117, 118, 119, 120, 121, 122])[0]'(by decide)).toNat = 48 := rfl
        clear hij hJ1 hn hle
        set_option maxRecDepth 30000 in
        go_wp2_with fail
        go_ret2
        exact ⟨j, by have := HJ.out; omega, HL.out, HG.out, rfl, by have := HB2.out; rw [HBit.out] at this; exact this⟩
      · have HBit : Hid (bitAt n j = 49) := by show _ = _; unfold bitAt; rw [if_pos (by have := HU.out; omega)]
        have hcv := HCv.out
        rw [HBit.out, show ((49 : UInt8).toNat : Int) = 49 from rfl] at hcv
        have hd0 : ((ByteArray.mk #[48, 49, 50, 51, 52, 53, 54, 55, 56, 57, 97, 98, 99, 100, 101, 102, 103, 104, 105, 106, 107, 108, 109, 110, 111, 112, 113, 114, 115, 116, 117, 118, 119, 120, 121, 122])[1]'(by decide)).toNat = 49 := rfl
        clear hij hJ1 hn hle
        set_option maxRecDepth 30000 in
        go_wp2_with fail
        go_ret2
        exact ⟨j, by have := HJ.out; omega, HL.out, HG.out, rfl, by have := HB2.out; rw [HBit.out] at this; exact this⟩
end Bw
end Go.Proofs.YtnhnemmddgofnaaDoor
