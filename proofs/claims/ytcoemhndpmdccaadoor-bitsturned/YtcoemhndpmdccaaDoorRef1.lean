/- What the document's own answers on rows are: CheckRow of any text, RowOf of any number from 0 on, OfBytes of at most 125 bytes. -/
import Derived.Test.YtcoemhndpmdccaaDoorFmt2
import Derived.Test.YtcoemhndpmdccaaDoorShelfStr
namespace Go.Proofs.YtcoemhndpmdccaaDoor
open Go.ChangeShapes Go.WideShapes Go.ChangeAt Go.RowKit
namespace Bw
open Bm

set_option maxHeartbeats 1000000 in
theorem formatInt2 (n : Nat) (w : World) (h : w.cell? ⟨5, 1, none⟩ = some (.int .u8 1)) (hn : n < 2 ^ 63) :
    Calls Tryd.prog 31 #[.int .i64 n, .int .i64 2] w fun e w' => ∃ j, j ≤ 63 ∧ n < 2 ^ (j + 1) ∧ (j = 0 ∨ 2 ^ j ≤ n) ∧ e = .returned (.string ⟨(bitsHead n (j + 1) (j + 1)).toArray⟩) ∧ Below w.heap.size w w' := by
  have hc := formatBits2 n w h hn
  have hn' : (n : Int) < 9223372036854775808 := by omega
  have H := Hid.mk hc
  clear hc h hn
  go_enter Tryd.func31, Tryd.ntmps31
  go_wp2_with (go_at_call 49; go_in)
  refine H.out.mono ?_
  rintro e w1 ⟨j, h1, h2, h3, rfl, hb⟩
  go_wp2_with fail
  go_ret
  exact ⟨j, h1, h2, h3, rfl, hb⟩

theorem count_row (l : List UInt8) : Lib.countByte l 48 + Lib.countByte l 49 ≤ l.length ∧ (Lib.countByte l 48 + Lib.countByte l 49 = l.length ↔ rowB l = true) := by
  unfold Lib.countByte rowB
  induction l with
  | nil => simp
  | cons c l ih =>
    simp only [List.count_cons, List.length_cons, List.all_cons, Bool.and_eq_true]
    obtain ⟨h1, h2⟩ := ih
    by_cases hc : bit c = true
    · have e : (if (c == 48) = true then 1 else 0) + (if (c == 49) = true then 1 else 0) = 1 := by
        rcases (bit_iff c).1 hc with h | h
        · have : c = 48 := UInt8.toNat_inj.1 (by show c.toNat = 48; omega)
          subst this; rfl
        · have : c = 49 := UInt8.toNat_inj.1 (by show c.toNat = 49; omega)
          subst this; rfl
      refine ⟨by omega, ?_⟩
      rw [← h2]
      exact ⟨fun h => ⟨hc, by omega⟩, fun h => by omega⟩
    · have e : (if (c == 48) = true then 1 else 0) + (if (c == 49) = true then 1 else 0) = 0 := by
        unfold bit at hc
        simp only [Bool.or_eq_true, not_or] at hc
        rw [if_neg hc.1, if_neg hc.2]
      exact ⟨by omega, fun h => by omega, fun h => absurd h.1 hc⟩

set_option maxHeartbeats 1000000 in
theorem checkRow_any (s : ByteArray) (w : World) (hs : s.size ≤ maxLen) :
    Calls Tryd.prog 9 #[.string s] w fun e w' => e = .returned (.int .i64 (checkE s.data.toList)) ∧ w' = w := by
  obtain ⟨h1, h2⟩ := count_row s.data.toList
  have hl : s.data.toList.length = s.size := by simp
  rw [hl] at h1 h2
  unfold maxLen at hs
  have c1 := fun W => Tryd.strings_Count_one s 48 W
  have c2 := fun W => Tryd.strings_Count_one s 49 W
  unfold checkE
  rw [hl]
  generalize Lib.countByte s.data.toList 48 = a at *
  generalize Lib.countByte s.data.toList 49 = b at *
  by_cases h0 : 1000 < s.size
  · rw [if_pos h0]
    clear c1 c2 h2 hl
    go_enter Tryd.func9, Tryd.ntmps9
    go_wp2_with fail
    go_ret
    exact ⟨rfl, rfl⟩
  · rw [if_neg h0]
    by_cases h3 : a + b = s.size
    · rw [if_pos (h2.1 h3)]
      have h3' : (((a : Int) + (b : Int)) == (s.size : Int)) = true := by simp; omega
      have HL := Hid.mk hl
      clear h2 hl h3
      go_enter Tryd.func9, Tryd.ntmps9
      go_wp2_with fail
      refine (c1 _).mono ?_
      rintro e w1 ⟨rfl, rfl⟩
      go_wp2_with fail
      refine (c2 _).mono ?_
      rintro e w1 ⟨rfl, rfl⟩
      clear c1 c2
      go_wp2_with fail
      go_ret
      exact ⟨rfl, rfl⟩
    · rw [if_neg (fun h => h3 (h2.2 h))]
      have h3' : (((a : Int) + (b : Int)) == (s.size : Int)) = false := by simp; omega
      clear h2 hl h3
      go_enter Tryd.func9, Tryd.ntmps9
      go_wp2_with fail
      refine (c1 _).mono ?_
      rintro e w1 ⟨rfl, rfl⟩
      go_wp2_with fail
      refine (c2 _).mono ?_
      rintro e w1 ⟨rfl, rfl⟩
      clear c1 c2
      go_wp2_with fail
      go_ret
      exact ⟨rfl, rfl⟩

theorem repeat_zero (c : Nat) : Lib.repeatL [48] c = List.replicate c 48 := by
  induction c with
  | zero => rfl
  | succ c ih => rw [Lib.repeatL, ih, List.replicate_succ]; rfl

theorem bitAt_high (n j : Nat) (h : n < 2 ^ j) : bitAt n j = 48 := by
  unfold bitAt; rw [Nat.div_eq_of_lt h]; rfl
theorem pad_row (n j size : Nat) (hn : n < 2 ^ j) (hj : j ≤ size) : List.replicate (size - j) 48 ++ bitsHead n j j = bitsHead n size size := by
  apply List.ext_getElem
  · rw [List.length_append, List.length_replicate, bitsHead_length, bitsHead_length]; omega
  · intro i h1 h2
    rw [bitsHead_length] at h2
    by_cases hi : i < size - j
    · rw [List.getElem_append_left (by simpa using hi)]
      simp only [List.getElem_replicate, bitsHead, List.getElem_map, List.getElem_range]
      exact (bitAt_high n _ (Nat.lt_of_lt_of_le hn (Nat.pow_le_pow_right (by omega) (by omega)))).symm
    · rw [List.getElem_append_right (by simpa using hi)]
      simp only [List.length_replicate, bitsHead, List.getElem_map, List.getElem_range]
      congr 1; omega
end Bw
end Go.Proofs.YtcoemhndpmdccaaDoor
