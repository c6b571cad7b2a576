/- The library's count of bits, and how many numbers a filter lets in: filter.size, filter.isWrong, filter.greatest. -/
import Derived.Test.YtfmjhgggoklaoaaDoorFilOne
import Derived.Laws.Bits64b
namespace Go.Proofs.YtfmjhgggoklaoaaDoor
open Go.ChangeShapes Go.WideShapes Go.ChangeAt Go.RowKit
namespace Bw
def s1I (m x : Int) : Int := IntKind.u64.wrap (bits .and .u64 (x / 2) m + bits .and .u64 x m)
def s2I (m x : Int) : Int := IntKind.u64.wrap (bits .and .u64 (x / 4) m + bits .and .u64 x m)
def s3I (m x : Int) : Int := bits .and .u64 (IntKind.u64.wrap (x / 16 + x)) m
def s4I (q x : Int) : Int := IntKind.u64.wrap (x + x / q)
def onesI (x : Int) : Int := bits .and .i64 (wrap64 (s4I 4294967296 (s4I 65536 (s4I 256 (s3I 1085102592571150095 (s2I 3689348814741910323 (s1I 6148914691236517205 x))))))) 127
theorem wraps_u64 (n : Int) (h0 : 0 ≤ n) (h1 : n < 18446744073709551616) : IntKind.u64.wrap n = n := by rw [IntKind.wrap_u64]; omega
theorem wrap64_small (n : Int) (h0 : 0 ≤ n) (h1 : n < 2 ^ 63) : wrap64 n = n := by unfold wrap64; omega
theorem s1_nat (m x : Nat) (hm : m < 18446744073709551616) (hx : x < 2 ^ 32) : s1I m x = (st1 m x : Nat) := by
  unfold s1I st1
  have l1 : x / 2 &&& m ≤ x / 2 := Nat.and_le_left
  have l2 : x &&& m ≤ x := Nat.and_le_left
  rw [show (x : Int) / 2 = ((x / 2 : Nat) : Int) by omega, bits_and_u64_nat _ _ (by omega) hm, bits_and_u64_nat _ _ (by omega) hm, wraps_u64 _ (by omega) (by omega)]
  omega
theorem s2_nat (m x : Nat) (hm : m < 18446744073709551616) (hx : x < 2 ^ 34) : s2I m x = (st2 m x : Nat) := by
  unfold s2I st2
  have l1 : x / 4 &&& m ≤ x / 4 := Nat.and_le_left
  have l2 : x &&& m ≤ x := Nat.and_le_left
  rw [show (x : Int) / 4 = ((x / 4 : Nat) : Int) by omega, bits_and_u64_nat _ _ (by omega) hm, bits_and_u64_nat _ _ (by omega) hm, wraps_u64 _ (by omega) (by omega)]
  omega
theorem s3_nat (m x : Nat) (hm : m < 18446744073709551616) (hx : x < 2 ^ 36) : s3I m x = (st3 m x : Nat) := by
  unfold s3I st3
  rw [wraps_u64 _ (by omega) (by omega), show (x : Int) / 16 + (x : Int) = ((x / 16 + x : Nat) : Int) by omega, bits_and_u64_nat _ _ (by omega) hm]
theorem s4_nat (q x : Nat) (hx : x < 2 ^ 40) : s4I q x = ((x + x / q : Nat) : Int) := by
  unfold s4I
  have l : x / q ≤ x := Nat.div_le_self _ _
  have e : (x : Int) / (q : Int) = ((x / q : Nat) : Int) := by simp
  rw [e]
  generalize x / q = y at *
  rw [wraps_u64 _ (by omega) (by omega)]
  omega
theorem ones_nat (x : Nat) (hx : x < 2 ^ 32) : onesI x = (popN 32 x : Nat) := by
  obtain ⟨t, ht, b1, b2, b3, hr⟩ := ones_sums x hx
  unfold onesN at ht
  have l1 : st1 6148914691236517205 x < 2 ^ 34 := by
    have l1 : x / 2 &&& 6148914691236517205 ≤ x / 2 := Nat.and_le_left
    have l2 : x &&& 6148914691236517205 ≤ x := Nat.and_le_left
    unfold st1; omega
  have l2 : st2 3689348814741910323 (st1 6148914691236517205 x) < 2 ^ 36 := by
    generalize st1 6148914691236517205 x = y at *
    have l1 : y / 4 &&& 3689348814741910323 ≤ y / 4 := Nat.and_le_left
    have l2 : y &&& 3689348814741910323 ≤ y := Nat.and_le_left
    unfold st2; omega
  have e1 := s1_nat 6148914691236517205 x (by omega) hx
  have e2 := s2_nat 3689348814741910323 _ (by omega) l1
  have e3 := s3_nat 1085102592571150095 _ (by omega) l2
  rw [← ht] at e3
  have e4 := s4_nat 256 t (by omega)
  have e5 := s4_nat 65536 (t + t / 256) (by omega)
  have e6 := s4_nat 4294967296 (t + t / 256 + (t + t / 256) / 65536) (by omega)
  simp only [Int.cast_ofNat_Int] at e1 e2 e3 e4 e5 e6
  unfold onesI
  rw [e1, e2, e3, e4, e5, e6, wrap64_small _ (by omega) (by omega)]
  have hm := bits_mask .i64 62 (by decide) (fun n h0 h1 => wraps_i64 n h0 (by omega)) 7 (by decide) (((t + t / 256 + (t + t / 256) / 65536) + (t + t / 256 + (t + t / 256) / 65536) / 4294967296 : Nat) : Int) (by omega) (by omega)
  rw [show (2 : Int) ^ 7 - 1 = 127 by decide] at hm
  rw [hm, ← hr]
  omega
set_option maxHeartbeats 1000000 in
theorem ones64_any (x : Nat) (w : World) (hx : x < 2 ^ 32) :
    Calls Tryd.prog 45 #[.int .u64 x] w fun e w' => e = .returned (.int .i64 (popN 32 x)) ∧ w' = w := by
  have hx' : (x : Int) ≤ 4294967295 := by omega
  have hk := ones_nat x hx
  rw [← hk]
  clear hk hx
  go_enter Tryd.func45, Tryd.ntmps45
  go_wp2_with fail
  go_ret
  exact ⟨rfl, rfl⟩
set_option maxHeartbeats 1000000 in
theorem ones_any (x : Nat) (w : World) (hx : x < 2 ^ 32) :
    Calls Tryd.prog 43 #[.int .u64 x] w fun e w' => e = .returned (.int .i64 (popN 32 x)) ∧ w' = w := by
  have HO := Hid.mk (ones64_any x w hx)
  clear hx
  go_enter Tryd.func43, Tryd.ntmps43
  go_wp2_with fail
  refine HO.out.mono ?_
  rintro e w1 ⟨rfl, rfl⟩
  go_wp2_with fail
  go_ret
  exact ⟨rfl, rfl⟩
end Bw
end Go.Proofs.YtfmjhgggoklaoaaDoor
