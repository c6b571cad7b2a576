/- The law StuffFixed returns true for all texts, bytes and numbers: fixed bits are put in, and the most is told, as the document says, errors too. -/
import Derived.Test.YtkfgcedbdfjofabStuffed
import Derived.Test.YtkfgcedbdfjofabStuffFixed
import Derived.Test.YtkfgcedbdfjofabStuffMost
import Derived.Test.YtkfgcedbdfjofabRefFix
namespace Go.Proofs.Ytkfgcedbdfjofab
open Go.ChangeShapes Go.WideShapes Go.ChangeAt Go.RowKit
namespace Bw
open Bm

theorem most_max (n : Nat) (h : 1 ≤ n) : (((n + (n - 1) / 4 : Nat) : Int) != (n : Int) + max ((n : Int) - 1) 0 / 4) = false := by
  have e : ((n + (n - 1) / 4 : Nat) : Int) = (n : Int) + max ((n : Int) - 1) 0 / 4 := by omega
  rw [e]; simp

set_option maxHeartbeats 2000000 in
theorem fix_bad_low (s : ByteArray) (a : Int) (n : Int) (w : World) (hs : s.size ≤ maxLen) (hc : checkE s.data.toList ≠ 0) (hn : n < 0) :
    Calls Try.prog 4 #[.string s, .int .u8 a, .int .i64 n] w fun e w' => e = .returned (.bool true) ∧ Below w.heap.size w w' := by
  have hck := fun W => checkRow_any s W hs
  have hfx := fixed_bad s a w hs hc
  have hc' : (checkE s.data.toList == 0) = false := by simpa using hc
  clear hs hc
  have hmo := fun W => most_bad n W (.inl hn)
  have HF := Hid.mk hfx
  have HMO := Hid.mk hmo
  have HCK := Hid.mk hck
  clear hfx hmo hck
  go_enter Try.func4, Try.ntmps4
  go_wp2_with fail
  refine HF.out.mono ?_
  rintro e w1 ⟨rfl, hb1⟩
  go_wp2_with fail
  refine (HMO.out _).mono ?_
  rintro e w2 ⟨rfl, hw2⟩
  subst hw2
  go_wp2_with fail
  refine (stuffed_any _).mono ?_
  rintro e w3 ⟨rfl, hb3⟩
  go_wp2_with fail
  refine (HCK.out _).mono ?_
  rintro e w4 ⟨rfl, hw4⟩
  subst hw4
  go_wp2_with fail
  go_ret
  exact ⟨by first | rfl | exact (by simp), bl2 hb1 hb3⟩

set_option maxHeartbeats 2000000 in
theorem fix_range_low (s : ByteArray) (a : Int) (n : Int) (w : World) (hc : checkE s.data.toList = 0) (h0 : a ≠ 48) (h1 : a ≠ 49) (hn : n < 0) :
    Calls Try.prog 4 #[.string s, .int .u8 a, .int .i64 n] w fun e w' => e = .returned (.bool true) ∧ Below w.heap.size w w' := by
  have hck := fun W => checkRow_any s W (by have := (small_of_check hc).1; unfold maxLen; omega)
  rw [hc] at hck
  have hfx := fixed_range s a w hc h0 h1
  have h0' : (a != 48) = true := by simpa using h0
  have h1' : (a != 49) = true := by simpa using h1
  clear hc h0 h1
  have hmo := fun W => most_bad n W (.inl hn)
  have HF := Hid.mk hfx
  have HMO := Hid.mk hmo
  have HCK := Hid.mk hck
  clear hfx hmo hck
  go_enter Try.func4, Try.ntmps4
  go_wp2_with fail
  refine HF.out.mono ?_
  rintro e w1 ⟨rfl, hb1⟩
  go_wp2_with fail
  refine (HMO.out _).mono ?_
  rintro e w2 ⟨rfl, hw2⟩
  subst hw2
  go_wp2_with fail
  refine (stuffed_any _).mono ?_
  rintro e w3 ⟨rfl, hb3⟩
  go_wp2_with fail
  refine (HCK.out _).mono ?_
  rintro e w4 ⟨rfl, hw4⟩
  subst hw4
  go_wp2_with fail
  go_ret
  exact ⟨by first | rfl | exact (by simp), bl2 hb1 hb3⟩

set_option maxHeartbeats 2000000 in
theorem fix_ok_low (s : ByteArray) (a : UInt8) (n : Int) (w : World) (hc : checkE s.data.toList = 0) (ha : bit a = true) (hn : n < 0) :
    Calls Try.prog 4 #[.string s, .int .u8 a.toNat, .int .i64 n] w fun e w' => e = .returned (.bool true) ∧ Below w.heap.size w w' := by
  obtain ⟨h1000, hrow⟩ := small_of_check hc
  have hck := fun W => checkRow_any s W (by unfold maxLen; omega)
  rw [hc] at hck
  have hfx := fixed_ok s a w hc ha
  have hrf := fun W => fixBits_any s a W h1000
  have HRF := Hid.mk hrf
  have hab : ((a.toNat : Int) != 48) = false ∨ (((a.toNat : Int) != 48) = true ∧ ((a.toNat : Int) != 49) = false) := by
    rcases (bit_iff a).1 ha with h | h
    · left; rw [h]; rfl
    · right; rw [h]; exact ⟨rfl, rfl⟩
  clear hc ha hrow hrf h1000
  have hmo := fun W => most_bad n W (.inl hn)
  have HF := Hid.mk hfx
  have HMO := Hid.mk hmo
  have HCK := Hid.mk hck
  clear hfx hmo hck
  go_enter Try.func4, Try.ntmps4
  go_wp2_with fail
  refine HF.out.mono ?_
  rintro e w1 ⟨rfl, hb1⟩
  go_wp2_with fail
  refine (HMO.out _).mono ?_
  rintro e w2 ⟨rfl, hw2⟩
  subst hw2
  go_wp2_with fail
  refine (stuffed_any _).mono ?_
  rintro e w3 ⟨rfl, hb3⟩
  go_wp2_with fail
  refine (HCK.out _).mono ?_
  rintro e w4 ⟨rfl, hw4⟩
  subst hw4
  rcases hab with hab | ⟨hab, hab2⟩
  all_goals focus
    go_wp2_with fail
    refine (HRF.out _).mono ?_
    rintro e w5 ⟨rfl, hb5⟩
    go_wp2_with fail
    go_ret
    exact ⟨by first | rfl | exact (by simp), bl2 (bl2 hb1 hb3) hb5⟩

set_option maxHeartbeats 2000000 in
theorem fix_bad_high (s : ByteArray) (a : Int) (n : Int) (w : World) (hs : s.size ≤ maxLen) (hc : checkE s.data.toList ≠ 0) (hn : 1000 < n) :
    Calls Try.prog 4 #[.string s, .int .u8 a, .int .i64 n] w fun e w' => e = .returned (.bool true) ∧ Below w.heap.size w w' := by
  have hck := fun W => checkRow_any s W hs
  have hfx := fixed_bad s a w hs hc
  have hc' : (checkE s.data.toList == 0) = false := by simpa using hc
  clear hs hc
  have hmo := fun W => most_bad n W (.inr hn)
  have hn0 : decide (n < 0) = false := by simp; omega
  have HF := Hid.mk hfx
  have HMO := Hid.mk hmo
  have HCK := Hid.mk hck
  clear hfx hmo hck
  go_enter Try.func4, Try.ntmps4
  go_wp2_with fail
  refine HF.out.mono ?_
  rintro e w1 ⟨rfl, hb1⟩
  go_wp2_with fail
  refine (HMO.out _).mono ?_
  rintro e w2 ⟨rfl, hw2⟩
  subst hw2
  go_wp2_with fail
  refine (stuffed_any _).mono ?_
  rintro e w3 ⟨rfl, hb3⟩
  go_wp2_with fail
  refine (HCK.out _).mono ?_
  rintro e w4 ⟨rfl, hw4⟩
  subst hw4
  go_wp2_with fail
  go_ret
  exact ⟨by first | rfl | exact (by simp), bl2 hb1 hb3⟩

set_option maxHeartbeats 2000000 in
theorem fix_range_high (s : ByteArray) (a : Int) (n : Int) (w : World) (hc : checkE s.data.toList = 0) (h0 : a ≠ 48) (h1 : a ≠ 49) (hn : 1000 < n) :
    Calls Try.prog 4 #[.string s, .int .u8 a, .int .i64 n] w fun e w' => e = .returned (.bool true) ∧ Below w.heap.size w w' := by
  have hck := fun W => checkRow_any s W (by have := (small_of_check hc).1; unfold maxLen; omega)
  rw [hc] at hck
  have hfx := fixed_range s a w hc h0 h1
  have h0' : (a != 48) = true := by simpa using h0
  have h1' : (a != 49) = true := by simpa using h1
  clear hc h0 h1
  have hmo := fun W => most_bad n W (.inr hn)
  have hn0 : decide (n < 0) = false := by simp; omega
  have HF := Hid.mk hfx
  have HMO := Hid.mk hmo
  have HCK := Hid.mk hck
  clear hfx hmo hck
  go_enter Try.func4, Try.ntmps4
  go_wp2_with fail
  refine HF.out.mono ?_
  rintro e w1 ⟨rfl, hb1⟩
  go_wp2_with fail
  refine (HMO.out _).mono ?_
  rintro e w2 ⟨rfl, hw2⟩
  subst hw2
  go_wp2_with fail
  refine (stuffed_any _).mono ?_
  rintro e w3 ⟨rfl, hb3⟩
  go_wp2_with fail
  refine (HCK.out _).mono ?_
  rintro e w4 ⟨rfl, hw4⟩
  subst hw4
  go_wp2_with fail
  go_ret
  exact ⟨by first | rfl | exact (by simp), bl2 hb1 hb3⟩

set_option maxHeartbeats 2000000 in
theorem fix_ok_high (s : ByteArray) (a : UInt8) (n : Int) (w : World) (hc : checkE s.data.toList = 0) (ha : bit a = true) (hn : 1000 < n) :
    Calls Try.prog 4 #[.string s, .int .u8 a.toNat, .int .i64 n] w fun e w' => e = .returned (.bool true) ∧ Below w.heap.size w w' := by
  obtain ⟨h1000, hrow⟩ := small_of_check hc
  have hck := fun W => checkRow_any s W (by unfold maxLen; omega)
  rw [hc] at hck
  have hfx := fixed_ok s a w hc ha
  have hrf := fun W => fixBits_any s a W h1000
  have HRF := Hid.mk hrf
  have hab : ((a.toNat : Int) != 48) = false ∨ (((a.toNat : Int) != 48) = true ∧ ((a.toNat : Int) != 49) = false) := by
    rcases (bit_iff a).1 ha with h | h
    · left; rw [h]; rfl
    · right; rw [h]; exact ⟨rfl, rfl⟩
  clear hc ha hrow hrf h1000
  have hmo := fun W => most_bad n W (.inr hn)
  have hn0 : decide (n < 0) = false := by simp; omega
  have HF := Hid.mk hfx
  have HMO := Hid.mk hmo
  have HCK := Hid.mk hck
  clear hfx hmo hck
  go_enter Try.func4, Try.ntmps4
  go_wp2_with fail
  refine HF.out.mono ?_
  rintro e w1 ⟨rfl, hb1⟩
  go_wp2_with fail
  refine (HMO.out _).mono ?_
  rintro e w2 ⟨rfl, hw2⟩
  subst hw2
  go_wp2_with fail
  refine (stuffed_any _).mono ?_
  rintro e w3 ⟨rfl, hb3⟩
  go_wp2_with fail
  refine (HCK.out _).mono ?_
  rintro e w4 ⟨rfl, hw4⟩
  subst hw4
  rcases hab with hab | ⟨hab, hab2⟩
  all_goals focus
    go_wp2_with fail
    refine (HRF.out _).mono ?_
    rintro e w5 ⟨rfl, hb5⟩
    go_wp2_with fail
    go_ret
    exact ⟨by first | rfl | exact (by simp), bl2 (bl2 hb1 hb3) hb5⟩

set_option maxHeartbeats 2000000 in
theorem fix_bad_zero (s : ByteArray) (a : Int)  (w : World) (hs : s.size ≤ maxLen) (hc : checkE s.data.toList ≠ 0)  :
    Calls Try.prog 4 #[.string s, .int .u8 a, .int .i64 0] w fun e w' => e = .returned (.bool true) ∧ Below w.heap.size w w' := by
  have hck := fun W => checkRow_any s W hs
  have hfx := fixed_bad s a w hs hc
  have hc' : (checkE s.data.toList == 0) = false := by simpa using hc
  clear hs hc
  have hmo := fun W => most_zero W
  have HF := Hid.mk hfx
  have HMO := Hid.mk hmo
  have HCK := Hid.mk hck
  clear hfx hmo hck
  go_enter Try.func4, Try.ntmps4
  go_wp2_with fail
  refine HF.out.mono ?_
  rintro e w1 ⟨rfl, hb1⟩
  go_wp2_with fail
  refine (HMO.out _).mono ?_
  rintro e w2 ⟨rfl, hw2⟩
  subst hw2
  go_wp2_with fail
  refine (stuffed_any _).mono ?_
  rintro e w3 ⟨rfl, hb3⟩
  go_wp2_with fail
  refine (HCK.out _).mono ?_
  rintro e w4 ⟨rfl, hw4⟩
  subst hw4
  go_wp2_with fail
  go_ret
  exact ⟨by first | rfl | exact (by simp), bl2 hb1 hb3⟩

set_option maxHeartbeats 2000000 in
theorem fix_range_zero (s : ByteArray) (a : Int)  (w : World) (hc : checkE s.data.toList = 0) (h0 : a ≠ 48) (h1 : a ≠ 49)  :
    Calls Try.prog 4 #[.string s, .int .u8 a, .int .i64 0] w fun e w' => e = .returned (.bool true) ∧ Below w.heap.size w w' := by
  have hck := fun W => checkRow_any s W (by have := (small_of_check hc).1; unfold maxLen; omega)
  rw [hc] at hck
  have hfx := fixed_range s a w hc h0 h1
  have h0' : (a != 48) = true := by simpa using h0
  have h1' : (a != 49) = true := by simpa using h1
  clear hc h0 h1
  have hmo := fun W => most_zero W
  have HF := Hid.mk hfx
  have HMO := Hid.mk hmo
  have HCK := Hid.mk hck
  clear hfx hmo hck
  go_enter Try.func4, Try.ntmps4
  go_wp2_with fail
  refine HF.out.mono ?_
  rintro e w1 ⟨rfl, hb1⟩
  go_wp2_with fail
  refine (HMO.out _).mono ?_
  rintro e w2 ⟨rfl, hw2⟩
  subst hw2
  go_wp2_with fail
  refine (stuffed_any _).mono ?_
  rintro e w3 ⟨rfl, hb3⟩
  go_wp2_with fail
  refine (HCK.out _).mono ?_
  rintro e w4 ⟨rfl, hw4⟩
  subst hw4
  go_wp2_with fail
  go_ret
  exact ⟨by first | rfl | exact (by simp), bl2 hb1 hb3⟩

set_option maxHeartbeats 2000000 in
theorem fix_ok_zero (s : ByteArray) (a : UInt8)  (w : World) (hc : checkE s.data.toList = 0) (ha : bit a = true)  :
    Calls Try.prog 4 #[.string s, .int .u8 a.toNat, .int .i64 0] w fun e w' => e = .returned (.bool true) ∧ Below w.heap.size w w' := by
  obtain ⟨h1000, hrow⟩ := small_of_check hc
  have hck := fun W => checkRow_any s W (by unfold maxLen; omega)
  rw [hc] at hck
  have hfx := fixed_ok s a w hc ha
  have hrf := fun W => fixBits_any s a W h1000
  have HRF := Hid.mk hrf
  have hab : ((a.toNat : Int) != 48) = false ∨ (((a.toNat : Int) != 48) = true ∧ ((a.toNat : Int) != 49) = false) := by
    rcases (bit_iff a).1 ha with h | h
    · left; rw [h]; rfl
    · right; rw [h]; exact ⟨rfl, rfl⟩
  clear hc ha hrow hrf h1000
  have hmo := fun W => most_zero W
  have HF := Hid.mk hfx
  have HMO := Hid.mk hmo
  have HCK := Hid.mk hck
  clear hfx hmo hck
  go_enter Try.func4, Try.ntmps4
  go_wp2_with fail
  refine HF.out.mono ?_
  rintro e w1 ⟨rfl, hb1⟩
  go_wp2_with fail
  refine (HMO.out _).mono ?_
  rintro e w2 ⟨rfl, hw2⟩
  subst hw2
  go_wp2_with fail
  refine (stuffed_any _).mono ?_
  rintro e w3 ⟨rfl, hb3⟩
  go_wp2_with fail
  refine (HCK.out _).mono ?_
  rintro e w4 ⟨rfl, hw4⟩
  subst hw4
  rcases hab with hab | ⟨hab, hab2⟩
  all_goals focus
    go_wp2_with fail
    refine (HRF.out _).mono ?_
    rintro e w5 ⟨rfl, hb5⟩
    go_wp2_with fail
    go_ret
    exact ⟨by first | rfl | exact (by simp), bl2 (bl2 hb1 hb3) hb5⟩

set_option maxHeartbeats 2000000 in
theorem fix_bad_pos (s : ByteArray) (a : Int) (n : Nat) (w : World) (hs : s.size ≤ maxLen) (hc : checkE s.data.toList ≠ 0) (hn : 1 ≤ n) (hn2 : n ≤ 1000) :
    Calls Try.prog 4 #[.string s, .int .u8 a, .int .i64 n] w fun e w' => e = .returned (.bool true) ∧ Below w.heap.size w w' := by
  have hck := fun W => checkRow_any s W hs
  have hfx := fixed_bad s a w hs hc
  have hc' : (checkE s.data.toList == 0) = false := by simpa using hc
  clear hs hc
  have hmo := fun W => most_pos n W hn hn2
  have hmx := most_max n hn
  generalize n + (n - 1) / 4 = M at *
  have hn3 : (1 : Int) ≤ (n : Int) := by omega
  have hn4 : (n : Int) ≤ 1000 := by omega
  clear hn hn2
  have HF := Hid.mk hfx
  have HMO := Hid.mk hmo
  have HCK := Hid.mk hck
  clear hfx hmo hck
  go_enter Try.func4, Try.ntmps4
  go_wp2_with fail
  refine HF.out.mono ?_
  rintro e w1 ⟨rfl, hb1⟩
  go_wp2_with fail
  refine (HMO.out _).mono ?_
  rintro e w2 ⟨rfl, hw2⟩
  subst hw2
  go_wp2_with fail
  refine (stuffed_any _).mono ?_
  rintro e w3 ⟨rfl, hb3⟩
  go_wp2_with fail
  refine (HCK.out _).mono ?_
  rintro e w4 ⟨rfl, hw4⟩
  subst hw4
  go_wp2_with fail
  go_ret
  exact ⟨by first | rfl | exact (by simp), bl2 hb1 hb3⟩

set_option maxHeartbeats 2000000 in
theorem fix_range_pos (s : ByteArray) (a : Int) (n : Nat) (w : World) (hc : checkE s.data.toList = 0) (h0 : a ≠ 48) (h1 : a ≠ 49) (hn : 1 ≤ n) (hn2 : n ≤ 1000) :
    Calls Try.prog 4 #[.string s, .int .u8 a, .int .i64 n] w fun e w' => e = .returned (.bool true) ∧ Below w.heap.size w w' := by
  have hck := fun W => checkRow_any s W (by have := (small_of_check hc).1; unfold maxLen; omega)
  rw [hc] at hck
  have hfx := fixed_range s a w hc h0 h1
  have h0' : (a != 48) = true := by simpa using h0
  have h1' : (a != 49) = true := by simpa using h1
  clear hc h0 h1
  have hmo := fun W => most_pos n W hn hn2
  have hmx := most_max n hn
  generalize n + (n - 1) / 4 = M at *
  have hn3 : (1 : Int) ≤ (n : Int) := by omega
  have hn4 : (n : Int) ≤ 1000 := by omega
  clear hn hn2
  have HF := Hid.mk hfx
  have HMO := Hid.mk hmo
  have HCK := Hid.mk hck
  clear hfx hmo hck
  go_enter Try.func4, Try.ntmps4
  go_wp2_with fail
  refine HF.out.mono ?_
  rintro e w1 ⟨rfl, hb1⟩
  go_wp2_with fail
  refine (HMO.out _).mono ?_
  rintro e w2 ⟨rfl, hw2⟩
  subst hw2
  go_wp2_with fail
  refine (stuffed_any _).mono ?_
  rintro e w3 ⟨rfl, hb3⟩
  go_wp2_with fail
  refine (HCK.out _).mono ?_
  rintro e w4 ⟨rfl, hw4⟩
  subst hw4
  go_wp2_with fail
  go_ret
  exact ⟨by first | rfl | exact (by simp), bl2 hb1 hb3⟩

set_option maxHeartbeats 2000000 in
theorem fix_ok_pos (s : ByteArray) (a : UInt8) (n : Nat) (w : World) (hc : checkE s.data.toList = 0) (ha : bit a = true) (hn : 1 ≤ n) (hn2 : n ≤ 1000) :
    Calls Try.prog 4 #[.string s, .int .u8 a.toNat, .int .i64 n] w fun e w' => e = .returned (.bool true) ∧ Below w.heap.size w w' := by
  obtain ⟨h1000, hrow⟩ := small_of_check hc
  have hck := fun W => checkRow_any s W (by unfold maxLen; omega)
  rw [hc] at hck
  have hfx := fixed_ok s a w hc ha
  have hrf := fun W => fixBits_any s a W h1000
  have HRF := Hid.mk hrf
  have hab : ((a.toNat : Int) != 48) = false ∨ (((a.toNat : Int) != 48) = true ∧ ((a.toNat : Int) != 49) = false) := by
    rcases (bit_iff a).1 ha with h | h
    · left; rw [h]; rfl
    · right; rw [h]; exact ⟨rfl, rfl⟩
  clear hc ha hrow hrf h1000
  have hmo := fun W => most_pos n W hn hn2
  have hmx := most_max n hn
  generalize n + (n - 1) / 4 = M at *
  have hn3 : (1 : Int) ≤ (n : Int) := by omega
  have hn4 : (n : Int) ≤ 1000 := by omega
  clear hn hn2
  have HF := Hid.mk hfx
  have HMO := Hid.mk hmo
  have HCK := Hid.mk hck
  clear hfx hmo hck
  go_enter Try.func4, Try.ntmps4
  go_wp2_with fail
  refine HF.out.mono ?_
  rintro e w1 ⟨rfl, hb1⟩
  go_wp2_with fail
  refine (HMO.out _).mono ?_
  rintro e w2 ⟨rfl, hw2⟩
  subst hw2
  go_wp2_with fail
  refine (stuffed_any _).mono ?_
  rintro e w3 ⟨rfl, hb3⟩
  go_wp2_with fail
  refine (HCK.out _).mono ?_
  rintro e w4 ⟨rfl, hw4⟩
  subst hw4
  rcases hab with hab | ⟨hab, hab2⟩
  all_goals focus
    go_wp2_with fail
    refine (HRF.out _).mono ?_
    rintro e w5 ⟨rfl, hb5⟩
    go_wp2_with fail
    go_ret
    exact ⟨by first | rfl | exact (by simp), bl2 (bl2 hb1 hb3) hb5⟩
end Bw
end Go.Proofs.Ytkfgcedbdfjofab
namespace Go.Proofs.Ytkfgcedbdfjofab.stuffFixed
theorem walk (a0 : ByteArray) (a1 : Int) (a2 : Int) (w : World) (w0 : a0.size ≤ maxLen) (w1 : (Lit.int .u8 a1).wf = true) (w2 : (Lit.int .i64 a2).wf = true) :
    Calls Try.prog 4 #[.string a0, .int .u8 a1, .int .i64 a2] w fun e w' => e = .returned (.bool true) ∧ RowKit.Below w.heap.size w w' := by
  have hn : a2 < 0 ∨ 1000 < a2 ∨ a2 = 0 ∨ ∃ n : Nat, a2 = n ∧ 1 ≤ n ∧ n ≤ 1000 := by
    by_cases h1 : a2 < 0
    · exact .inl h1
    · by_cases h2 : 1000 < a2
      · exact .inr (.inl h2)
      · by_cases h3 : a2 = 0
        · exact .inr (.inr (.inl h3))
        · exact .inr (.inr (.inr ⟨a2.toNat, by omega, by omega, by omega⟩))
  by_cases h : Bm.checkE a0.data.toList = 0
  · by_cases hb : a1 = 48 ∨ a1 = 49
    · obtain ⟨a, ha, rfl⟩ : ∃ a : UInt8, Bm.bit a = true ∧ a1 = a.toNat := by
        rcases hb with rfl | rfl
        · exact ⟨48, rfl, rfl⟩
        · exact ⟨49, rfl, rfl⟩
      rcases hn with hn | hn | rfl | ⟨n, rfl, h1, h2⟩
      · exact Bw.fix_ok_low a0 a a2 w h ha hn
      · exact Bw.fix_ok_high a0 a a2 w h ha hn
      · exact Bw.fix_ok_zero a0 a w h ha
      · exact Bw.fix_ok_pos a0 a n w h ha h1 h2
    · rcases hn with hn | hn | rfl | ⟨n, rfl, h1, h2⟩
      · exact Bw.fix_range_low a0 a1 a2 w h (fun e => hb (.inl e)) (fun e => hb (.inr e)) hn
      · exact Bw.fix_range_high a0 a1 a2 w h (fun e => hb (.inl e)) (fun e => hb (.inr e)) hn
      · exact Bw.fix_range_zero a0 a1 w h (fun e => hb (.inl e)) (fun e => hb (.inr e))
      · exact Bw.fix_range_pos a0 a1 n w h (fun e => hb (.inl e)) (fun e => hb (.inr e)) h1 h2
  · rcases hn with hn | hn | rfl | ⟨n, rfl, h1, h2⟩
    · exact Bw.fix_bad_low a0 a1 a2 w w0 h hn
    · exact Bw.fix_bad_high a0 a1 a2 w w0 h hn
    · exact Bw.fix_bad_zero a0 a1 w w0 h
    · exact Bw.fix_bad_pos a0 a1 n w w0 h h1 h2
end Go.Proofs.Ytkfgcedbdfjofab.stuffFixed
