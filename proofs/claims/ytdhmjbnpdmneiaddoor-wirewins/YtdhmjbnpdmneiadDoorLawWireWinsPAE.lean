/- Joined out of our texts: ShelfCnt, FrCount, StepMath, CheckNext, CheckOf, CheckSm, StuffAdd, StuffFixed, FrFixed, StuffPut. -/
import Derived.Shelf.Strings.Count
import Derived.Test.YtdhmjbnpdmneiadDoorProg
import Derived.Test.YtdhmjbnpdmneiadDoorLawWireWinsPAC
import Derived.Test.YtdhmjbnpdmneiadDoorLawWireWinsPAD
import Derived.Test.YtdhmjbnpdmneiadDoorLawWireWinsPAB
import Derived.Deep.RegionWith
import Derived.Test.YtdhmjbnpdmneiadDoorLawWireWinsPAA
import Derived.OneCell
/- Contracts of Go's library that the kit proves once, laid at this program: no walk, one application each. -/
namespace Go.Proofs
open Go.Shelf
def Tryd.lays138_ren : Go.Shelf.Ren := ⟨fun | 138 => 90 | 195 => 103 | 218 => 104 | 143 => 105 | 219 => 114 | 217 => 117 | 225 => 118 | 224 => 119 | 267 => 120 | 266 => 121 | 314 => 122 | n => n, fun | 9 => 9 | 3 => 3 | 4 => 4 | 5 => 5 | 0 => 0 | 46 => 109 | 146 => 139 | 51 => 138 | n => n, fun | 1 => 4 | n => n⟩
theorem Tryd.lays138 : Go.Proofs.Lays.n138 Tryd.prog Tryd.lays138_ren := {
  mixed := by kernel_rfl
  f138 := Tryd.func90.trans (congrArg some (by kernel_rfl))
  f143 := Tryd.func105.trans (congrArg some (by kernel_rfl))
  f195 := Tryd.func103.trans (congrArg some (by kernel_rfl))
  f217 := Tryd.func117.trans (congrArg some (by kernel_rfl))
  f218 := Tryd.func104.trans (congrArg some (by kernel_rfl))
  f219 := Tryd.func114.trans (congrArg some (by kernel_rfl))
  f224 := Tryd.func119.trans (congrArg some (by kernel_rfl))
  f225 := Tryd.func118.trans (congrArg some (by kernel_rfl))
  f266 := Tryd.func121.trans (congrArg some (by kernel_rfl))
  f267 := Tryd.func120.trans (congrArg some (by kernel_rfl))
  f314 := Tryd.func122.trans (congrArg some (by kernel_rfl))
  t0 := Tryd.underlying0
  a0 := Tryd.isAgg0
  z0 := Tryd.sizeOf0
  v0 := Tryd.zeroValue0
  t3 := Tryd.underlying3
  a3 := Tryd.isAgg3
  z3 := Tryd.sizeOf3
  v3 := Tryd.zeroValue3
  t4 := Tryd.underlying4
  a4 := Tryd.isAgg4
  z4 := Tryd.sizeOf4
  v4 := Tryd.zeroValue4
  t5 := Tryd.underlying5
  a5 := Tryd.isAgg5
  z5 := Tryd.sizeOf5
  v5 := Tryd.zeroValue5
  t9 := Tryd.underlying9
  a9 := Tryd.isAgg9
  z9 := Tryd.sizeOf9
  v9 := Tryd.zeroValue9
  t46 := Tryd.underlying109
  a46 := Tryd.isAgg109
  z46 := Tryd.sizeOf109
  v46 := Tryd.zeroValue109
  t51 := Tryd.underlying138
  a51 := Tryd.isAgg138
  z51 := Tryd.sizeOf138
  v51 := Tryd.zeroValue138
  t146 := Tryd.underlying139
  a146 := Tryd.isAgg139
  z146 := Tryd.sizeOf139
  v146 := Tryd.zeroValue139
  g1 := by kernel_rfl }
open Go.RowKit Go.Lib in
theorem Tryd.strings_Count_one (s : ByteArray) (c : UInt8) (w : World) :
    Calls Tryd.prog 90 #[.string s, .string ⟨#[c]⟩] w fun e w' => e = .returned (.int .i64 (Lib.countByte s.data.toList c)) ∧ w' = w := Any.strings_Count_one Tryd.lays138 s c w
end Go.Proofs

/- What frame.countOf answers. -/
namespace Go.Proofs.YtdhmjbnpdmneiadDoor
open Go.ChangeShapes Go.WideShapes Go.ChangeAt Go.RowKit
namespace Bw
open Bm Cm

set_option maxHeartbeats 1000000 in
theorem count_0 (p : Nat) (w : World) (h : (p : Int).tmod 8 = 0) :
    Calls Tryd.prog 70 #[.int .i64 p] w fun e w' => e = .returned (.string ⟨(grayL 0).toArray⟩) ∧ Below w.heap.size w w' := by
  have hx : bits .xor .i64 0 0 = 0 := by decide
  have hr := fun W => row_ok 0 3 W (by omega) (by omega)
  have hl : (bitsHead 0 3 3).toArray = #[48, 48, 48] := by decide
  rw [hl] at hr
  have hcn := fun W => Tryd.strings_Count_one ⟨#[48, 48, 48]⟩ 49 W
  have hc2 : Lib.countByte (ByteArray.mk #[48, 48, 48]).data.toList 49 = 0 := by decide
  rw [hc2] at hcn
  have HR := Hid.mk hr
  have HC := Hid.mk hcn
  clear hr hcn hc2 hl
  go_enter Tryd.func70, Tryd.ntmps70
  go_wp2_with fail
  try rw [hx]
  refine (HR.out _).mono ?_
  rintro e w1 ⟨rfl, hb1⟩
  clear HR
  go_wp2_with fail
  refine (HC.out _).mono ?_
  rintro e w2 ⟨rfl, hw⟩
  subst hw
  go_wp2_with fail
  refine (frBit_any false _).mono ?_
  rintro e w3 ⟨rfl, hw⟩
  subst hw
  go_wp2_with fail
  go_ret
  exact ⟨rfl, hb1⟩
set_option maxHeartbeats 1000000 in
theorem count_1 (p : Nat) (w : World) (h : (p : Int).tmod 8 = 1) :
    Calls Tryd.prog 70 #[.int .i64 p] w fun e w' => e = .returned (.string ⟨(grayL 1).toArray⟩) ∧ Below w.heap.size w w' := by
  have hx : bits .xor .i64 1 0 = 1 := by decide
  have hr := fun W => row_ok 1 3 W (by omega) (by omega)
  have hl : (bitsHead 1 3 3).toArray = #[48, 48, 49] := by decide
  rw [hl] at hr
  have hcn := fun W => Tryd.strings_Count_one ⟨#[48, 48, 49]⟩ 49 W
  have hc2 : Lib.countByte (ByteArray.mk #[48, 48, 49]).data.toList 49 = 1 := by decide
  rw [hc2] at hcn
  have HR := Hid.mk hr
  have HC := Hid.mk hcn
  clear hr hcn hc2 hl
  go_enter Tryd.func70, Tryd.ntmps70
  go_wp2_with fail
  try rw [hx]
  refine (HR.out _).mono ?_
  rintro e w1 ⟨rfl, hb1⟩
  clear HR
  go_wp2_with fail
  refine (HC.out _).mono ?_
  rintro e w2 ⟨rfl, hw⟩
  subst hw
  go_wp2_with fail
  refine (frBit_any true _).mono ?_
  rintro e w3 ⟨rfl, hw⟩
  subst hw
  go_wp2_with fail
  go_ret
  exact ⟨rfl, hb1⟩
set_option maxHeartbeats 1000000 in
theorem count_2 (p : Nat) (w : World) (h : (p : Int).tmod 8 = 2) :
    Calls Tryd.prog 70 #[.int .i64 p] w fun e w' => e = .returned (.string ⟨(grayL 2).toArray⟩) ∧ Below w.heap.size w w' := by
  have hx : bits .xor .i64 2 1 = 3 := by decide
  have hr := fun W => row_ok 3 3 W (by omega) (by omega)
  have hl : (bitsHead 3 3 3).toArray = #[48, 49, 49] := by decide
  rw [hl] at hr
  have hcn := fun W => Tryd.strings_Count_one ⟨#[48, 49, 49]⟩ 49 W
  have hc2 : Lib.countByte (ByteArray.mk #[48, 49, 49]).data.toList 49 = 2 := by decide
  rw [hc2] at hcn
  have HR := Hid.mk hr
  have HC := Hid.mk hcn
  clear hr hcn hc2 hl
  go_enter Tryd.func70, Tryd.ntmps70
  go_wp2_with fail
  try rw [hx]
  refine (HR.out _).mono ?_
  rintro e w1 ⟨rfl, hb1⟩
  clear HR
  go_wp2_with fail
  refine (HC.out _).mono ?_
  rintro e w2 ⟨rfl, hw⟩
  subst hw
  go_wp2_with fail
  refine (frBit_any false _).mono ?_
  rintro e w3 ⟨rfl, hw⟩
  subst hw
  go_wp2_with fail
  go_ret
  exact ⟨rfl, hb1⟩
set_option maxHeartbeats 1000000 in
theorem count_3 (p : Nat) (w : World) (h : (p : Int).tmod 8 = 3) :
    Calls Tryd.prog 70 #[.int .i64 p] w fun e w' => e = .returned (.string ⟨(grayL 3).toArray⟩) ∧ Below w.heap.size w w' := by
  have hx : bits .xor .i64 3 1 = 2 := by decide
  have hr := fun W => row_ok 2 3 W (by omega) (by omega)
  have hl : (bitsHead 2 3 3).toArray = #[48, 49, 48] := by decide
  rw [hl] at hr
  have hcn := fun W => Tryd.strings_Count_one ⟨#[48, 49, 48]⟩ 49 W
  have hc2 : Lib.countByte (ByteArray.mk #[48, 49, 48]).data.toList 49 = 1 := by decide
  rw [hc2] at hcn
  have HR := Hid.mk hr
  have HC := Hid.mk hcn
  clear hr hcn hc2 hl
  go_enter Tryd.func70, Tryd.ntmps70
  go_wp2_with fail
  try rw [hx]
  refine (HR.out _).mono ?_
  rintro e w1 ⟨rfl, hb1⟩
  clear HR
  go_wp2_with fail
  refine (HC.out _).mono ?_
  rintro e w2 ⟨rfl, hw⟩
  subst hw
  go_wp2_with fail
  refine (frBit_any true _).mono ?_
  rintro e w3 ⟨rfl, hw⟩
  subst hw
  go_wp2_with fail
  go_ret
  exact ⟨rfl, hb1⟩
set_option maxHeartbeats 1000000 in
theorem count_4 (p : Nat) (w : World) (h : (p : Int).tmod 8 = 4) :
    Calls Tryd.prog 70 #[.int .i64 p] w fun e w' => e = .returned (.string ⟨(grayL 4).toArray⟩) ∧ Below w.heap.size w w' := by
  have hx : bits .xor .i64 4 2 = 6 := by decide
  have hr := fun W => row_ok 6 3 W (by omega) (by omega)
  have hl : (bitsHead 6 3 3).toArray = #[49, 49, 48] := by decide
  rw [hl] at hr
  have hcn := fun W => Tryd.strings_Count_one ⟨#[49, 49, 48]⟩ 49 W
  have hc2 : Lib.countByte (ByteArray.mk #[49, 49, 48]).data.toList 49 = 2 := by decide
  rw [hc2] at hcn
  have HR := Hid.mk hr
  have HC := Hid.mk hcn
  clear hr hcn hc2 hl
  go_enter Tryd.func70, Tryd.ntmps70
  go_wp2_with fail
  try rw [hx]
  refine (HR.out _).mono ?_
  rintro e w1 ⟨rfl, hb1⟩
  clear HR
  go_wp2_with fail
  refine (HC.out _).mono ?_
  rintro e w2 ⟨rfl, hw⟩
  subst hw
  go_wp2_with fail
  refine (frBit_any false _).mono ?_
  rintro e w3 ⟨rfl, hw⟩
  subst hw
  go_wp2_with fail
  go_ret
  exact ⟨rfl, hb1⟩
set_option maxHeartbeats 1000000 in
theorem count_5 (p : Nat) (w : World) (h : (p : Int).tmod 8 = 5) :
    Calls Tryd.prog 70 #[.int .i64 p] w fun e w' => e = .returned (.string ⟨(grayL 5).toArray⟩) ∧ Below w.heap.size w w' := by
  have hx : bits .xor .i64 5 2 = 7 := by decide
  have hr := fun W => row_ok 7 3 W (by omega) (by omega)
  have hl : (bitsHead 7 3 3).toArray = #[49, 49, 49] := by decide
  rw [hl] at hr
  have hcn := fun W => Tryd.strings_Count_one ⟨#[49, 49, 49]⟩ 49 W
  have hc2 : Lib.countByte (ByteArray.mk #[49, 49, 49]).data.toList 49 = 3 := by decide
  rw [hc2] at hcn
  have HR := Hid.mk hr
  have HC := Hid.mk hcn
  clear hr hcn hc2 hl
  go_enter Tryd.func70, Tryd.ntmps70
  go_wp2_with fail
  try rw [hx]
  refine (HR.out _).mono ?_
  rintro e w1 ⟨rfl, hb1⟩
  clear HR
  go_wp2_with fail
  refine (HC.out _).mono ?_
  rintro e w2 ⟨rfl, hw⟩
  subst hw
  go_wp2_with fail
  refine (frBit_any true _).mono ?_
  rintro e w3 ⟨rfl, hw⟩
  subst hw
  go_wp2_with fail
  go_ret
  exact ⟨rfl, hb1⟩
set_option maxHeartbeats 1000000 in
theorem count_6 (p : Nat) (w : World) (h : (p : Int).tmod 8 = 6) :
    Calls Tryd.prog 70 #[.int .i64 p] w fun e w' => e = .returned (.string ⟨(grayL 6).toArray⟩) ∧ Below w.heap.size w w' := by
  have hx : bits .xor .i64 6 3 = 5 := by decide
  have hr := fun W => row_ok 5 3 W (by omega) (by omega)
  have hl : (bitsHead 5 3 3).toArray = #[49, 48, 49] := by decide
  rw [hl] at hr
  have hcn := fun W => Tryd.strings_Count_one ⟨#[49, 48, 49]⟩ 49 W
  have hc2 : Lib.countByte (ByteArray.mk #[49, 48, 49]).data.toList 49 = 2 := by decide
  rw [hc2] at hcn
  have HR := Hid.mk hr
  have HC := Hid.mk hcn
  clear hr hcn hc2 hl
  go_enter Tryd.func70, Tryd.ntmps70
  go_wp2_with fail
  try rw [hx]
  refine (HR.out _).mono ?_
  rintro e w1 ⟨rfl, hb1⟩
  clear HR
  go_wp2_with fail
  refine (HC.out _).mono ?_
  rintro e w2 ⟨rfl, hw⟩
  subst hw
  go_wp2_with fail
  refine (frBit_any false _).mono ?_
  rintro e w3 ⟨rfl, hw⟩
  subst hw
  go_wp2_with fail
  go_ret
  exact ⟨rfl, hb1⟩
set_option maxHeartbeats 1000000 in
theorem count_7 (p : Nat) (w : World) (h : (p : Int).tmod 8 = 7) :
    Calls Tryd.prog 70 #[.int .i64 p] w fun e w' => e = .returned (.string ⟨(grayL 7).toArray⟩) ∧ Below w.heap.size w w' := by
  have hx : bits .xor .i64 7 3 = 4 := by decide
  have hr := fun W => row_ok 4 3 W (by omega) (by omega)
  have hl : (bitsHead 4 3 3).toArray = #[49, 48, 48] := by decide
  rw [hl] at hr
  have hcn := fun W => Tryd.strings_Count_one ⟨#[49, 48, 48]⟩ 49 W
  have hc2 : Lib.countByte (ByteArray.mk #[49, 48, 48]).data.toList 49 = 1 := by decide
  rw [hc2] at hcn
  have HR := Hid.mk hr
  have HC := Hid.mk hcn
  clear hr hcn hc2 hl
  go_enter Tryd.func70, Tryd.ntmps70
  go_wp2_with fail
  try rw [hx]
  refine (HR.out _).mono ?_
  rintro e w1 ⟨rfl, hb1⟩
  clear HR
  go_wp2_with fail
  refine (HC.out _).mono ?_
  rintro e w2 ⟨rfl, hw⟩
  subst hw
  go_wp2_with fail
  refine (frBit_any true _).mono ?_
  rintro e w3 ⟨rfl, hw⟩
  subst hw
  go_wp2_with fail
  go_ret
  exact ⟨rfl, hb1⟩
theorem countOf_any (p : Nat) (w : World) :
    Calls Tryd.prog 70 #[.int .i64 p] w fun e w' => e = .returned (.string ⟨(grayL (p % 8)).toArray⟩) ∧ Below w.heap.size w w' := by
  have hq : (p : Int).tmod 8 = ((p % 8 : Nat) : Int) := by rw [Int.tmod_eq_emod_of_nonneg (by omega)]; omega
  have hlt : p % 8 < 8 := Nat.mod_lt _ (by omega)
  generalize p % 8 = q at *
  match q, hlt with
  | 0, _ => exact count_0 p w hq
  | 1, _ => exact count_1 p w hq
  | 2, _ => exact count_2 p w hq
  | 3, _ => exact count_3 p w hq
  | 4, _ => exact count_4 p w hq
  | 5, _ => exact count_5 p w hq
  | 6, _ => exact count_6 p w hq
  | 7, _ => exact count_7 p w hq
  | n + 8, h => exact absurd h (by omega)
end Bw
end Go.Proofs.YtdhmjbnpdmneiadDoor

/- One step of the register as the program reckons it, in words of 64 bits. -/
namespace Go.Proofs.YtdhmjbnpdmneiadDoor.Cm
open Go Bm

theorem xor_i64 (a b : Nat) (ha : a < 2 ^ 62) (hb : b < 2 ^ 62) : bits .xor .i64 (a : Int) (b : Int) = ((a ^^^ b : Nat) : Int) := by
  have hx : a ^^^ b < 2 ^ 62 := Nat.xor_lt_two_pow ha hb
  have h1 : (BitVec.ofInt 64 (a : Int)).toNat = a := by
    rw [BitVec.ofInt_natCast, BitVec.toNat_ofNat]; exact Nat.mod_eq_of_lt (by omega)
  have h2 : (BitVec.ofInt 64 (b : Int)).toNat = b := by
    rw [BitVec.ofInt_natCast, BitVec.toNat_ofNat]; exact Nat.mod_eq_of_lt (by omega)
  show IntKind.i64.wrap ((BitVec.ofInt 64 (a : Int) ^^^ BitVec.ofInt 64 (b : Int)).toNat : Int) = _
  rw [BitVec.toNat_xor, h1, h2, IntKind.wrap_i64]
  omega
theorem two_pow_cast (s : Nat) : ((2 ^ s : Nat) : Int) = (2 : Int) ^ s := by simp
theorem pow_small (s : Nat) (h : s ≤ 21) : (1 : Int) ≤ 2 ^ s ∧ (2 : Int) ^ s ≤ 2097152 := by
  rw [← two_pow_cast]
  have h1 : 2 ^ s ≤ 2 ^ 21 := Nat.pow_le_pow_right (by omega) h
  have h2 := Nat.two_pow_pos s
  omega
theorem mask_i64 (n s : Nat) (hs : s ≤ 21) (hn : n < 2 ^ 62) : bits .and .i64 (n : Int) (2 ^ s - 1) = ((n % 2 ^ s : Nat) : Int) := by
  have := bits_mask .i64 62 (by decide) (fun n h0 h1 => by rw [IntKind.wrap_i64]; omega) s (by omega) (n : Int) (by omega) (by omega)
  rw [this]
  simp
theorem wrap_small (x : Int) (h0 : -9223372036854775808 ≤ x) (h1 : x < 9223372036854775808) : IntKind.i64.wrap x = x := by rw [IntKind.wrap_i64]; omega
/-- the bit that goes out at the left -/
theorem out_div (n s : Nat) (hs : 1 ≤ s) : 2 * n / 2 ^ s = n / 2 ^ (s - 1) := by
  obtain ⟨t, rfl⟩ : ∃ t, s = t + 1 := ⟨s - 1, by omega⟩
  rw [Nat.add_sub_cancel, Nat.pow_succ, Nat.mul_comm (2 ^ t) 2, Nat.mul_div_mul_left _ _ (by omega)]
theorem out_int (n s : Nat) (hs : 1 ≤ s) : (2 * (n : Int)) / 2 ^ s = ((n / 2 ^ (s - 1) : Nat) : Int) := by
  rw [← out_div n s hs]
  simp
theorem step_eq (s p n d : Nat) (h : n / 2 ^ (s - 1) = d) : crcStep s p n d = 2 * n % 2 ^ s := by
  unfold crcStep; rw [if_pos h, Nat.xor_zero]
theorem step_ne (s p n d : Nat) (h : n / 2 ^ (s - 1) ≠ d) : crcStep s p n d = 2 * n % 2 ^ s ^^^ p := by
  unfold crcStep; rw [if_neg h]
end Go.Proofs.YtdhmjbnpdmneiadDoor.Cm

/- What the method next of check.rule answers: one step of the register. -/
namespace Go.Proofs.YtdhmjbnpdmneiadDoor
open Go.ChangeShapes Go.WideShapes Go.ChangeAt Go.RowKit
namespace Bw
open Bm Cm

theorem mask_walk (n s : Nat) (hs : s ≤ 21) (hn : n ≤ 2097151) : bits .and .i64 ((n : Int) * 2) (wrap64 (wrap64 (2 ^ s) - 1)) = ((2 * n % 2 ^ s : Nat) : Int) := by
  obtain ⟨h1, h2⟩ := pow_small s hs
  have e1 : wrap64 (2 ^ s) = (2 : Int) ^ s := by unfold wrap64; omega
  have e2 : wrap64 ((2 : Int) ^ s - 1) = (2 : Int) ^ s - 1 := by unfold wrap64; omega
  rw [e1, e2]
  have e3 : (n : Int) * 2 = ((2 * n : Nat) : Int) := by omega
  rw [e3]
  exact mask_i64 (2 * n) s hs (by omega)
theorem out_walk (n s : Nat) (hs1 : 1 ≤ s) : (n : Int) * 2 / 2 ^ s = ((n / 2 ^ (s - 1) : Nat) : Int) := by
  rw [Int.mul_comm]; exact out_int n s hs1

set_option maxHeartbeats 1000000 in
theorem next_any (s p f en n d : Nat) (w : World) (hs1 : 1 ≤ s) (hs : s ≤ 21) (hp : p < 2 ^ s) (hn : n < 2 ^ s) :
    Calls Tryd.prog 89 #[.agg #[.int .i64 s, .int .i64 p, .int .i64 f, .int .i64 en], .int .i64 n, .int .i64 d] w fun e w' => e = .returned (.int .i64 (crcStep s p n d)) ∧ Below w.heap.size w w' := by
  have h21 : 2 ^ s ≤ 2 ^ 21 := Nat.pow_le_pow_right (by omega) hs
  have hnb : (n : Int) ≤ 2097151 := by omega
  have hpb : p ≤ 2097151 := by omega
  have hs1' : (1 : Int) ≤ (s : Int) := by omega
  have hs' : (s : Int) ≤ 21 := by omega
  have HM := Hid.mk (mask_walk n s hs (by omega))
  have HO := Hid.mk (out_walk n s hs1)
  have HB := Hid.mk (show 2 * n % 2 ^ s < 2 ^ s from Nat.mod_lt _ (Nat.two_pow_pos s))
  have HC := Hid.mk h21
  clear h21 hp hn
  by_cases hd : n / 2 ^ (s - 1) = d
  · have hc : ((n : Int) * 2 / 2 ^ s != (d : Int)) = false := by rw [HO.out, hd]; simp
    go_enter Tryd.func89, Tryd.ntmps89
    go_wp2_with fail
    go_ret
    exact ⟨by rw [HM.out, step_eq s p n d hd]; rfl, (Below.refl _ _).alloc (Nat.le_refl _) _⟩
  · have hc : ((n : Int) * 2 / 2 ^ s != (d : Int)) = true := by
      rw [HO.out, bne_iff_ne]
      intro h
      exact hd (by exact_mod_cast h)
    go_enter Tryd.func89, Tryd.ntmps89
    go_wp2_with fail
    go_ret
    refine ⟨?_, (Below.refl _ _).alloc (Nat.le_refl _) _⟩
    have h1 := HB.out
    have h2 := HC.out
    rw [HM.out, step_ne s p n d hd, xor_i64 _ _ (by omega) (by omega)]
    rfl
end Bw
end Go.Proofs.YtdhmjbnpdmneiadDoor

/- What check.sum answers of a row by one of the five kinds. -/
namespace Go.Proofs.YtdhmjbnpdmneiadDoor
open Go.ChangeShapes Go.WideShapes Go.ChangeAt Go.RowKit
namespace Bw
open Bm Cm

theorem new_cell (W : World) (cs : Array Value) (t : TypeId) (k g : Nat) (hg : g = W.heap.size) : (W.alloc (.cells cs t)).cell? ⟨g, k, none⟩ = cs[k]? := by
  subst hg
  exact cell_of_row _ _ k _ _ _ (heap_alloc_new W _)
theorem up_lt' {n a c : Nat} (h : n < 2 ^ a) (ha : a ≤ c) : n < 2 ^ c := Nat.lt_of_lt_of_le h (Nat.pow_le_pow_right (Nat.succ_pos 1) ha)
def rk (k : Nat) : Value := .agg #[.int .i64 (kS k), .int .i64 (kP k), .int .i64 (kF k), .int .i64 (kE k)]

set_option maxHeartbeats 4000000 in
theorem sumR_any (s p f en : Nat) (b : ByteArray) (w : World) (hs1 : 1 ≤ s) (hs : s ≤ 21) (hp : p < 2 ^ s) (hf : f < 2 ^ s) (he : en < 2 ^ s) (h1000 : b.size ≤ 1000) (hrow : rowB b.data.toList = true) :
    Calls Tryd.prog 67 #[.agg #[.int .i64 s, .int .i64 p, .int .i64 f, .int .i64 en], .string b] w fun e w' =>
      e = .returned (.tuple #[.string ⟨(bitsHead (crcR s p f b.data.toList ^^^ en) s s).toArray⟩, .int .i64 0]) ∧ Below w.heap.size w w' := by
  have hl : b.data.toList.length = b.size := by simp
  have HL := Hid.mk hl
  have HP := Hid.mk hp
  have HF := Hid.mk hf
  have HE := Hid.mk he
  have HR := Hid.mk hrow
  have hb1 : Below w.heap.size w (w.alloc (.cells #[.int .i64 s, .int .i64 p, .int .i64 f, .int .i64 en] 97)) := (Below.refl _ _).alloc (Nat.le_refl _) _
  have hnc := fun k => new_cell w #[.int .i64 s, .int .i64 p, .int .i64 f, .int .i64 en] 97 k w.heap.size rfl
  have HC := Hid.mk (And.intro (hnc 0) (And.intro (hnc 1) (And.intro (hnc 2) (hnc 3))))
  have HS := Hid.mk (show (w.alloc (.cells #[.int .i64 s, .int .i64 p, .int .i64 f, .int .i64 en] 97)).heap.size = w.heap.size + 1 by simp)
  clear hp hf he hrow hnc hl
  go_enter Tryd.func67, Tryd.ntmps67
  go_wp2_with fail
  generalize hW1 : w.alloc (.cells #[.int .i64 s, .int .i64 p, .int .i64 f, .int .i64 en] 97) = W1 at *
  clear hW1
  go_loopw [6, 12] (fun r i wr => ∃ j : Nat, j ≤ b.size ∧ i = .int .i64 j ∧ r = .int .i64 (crcR s p f (b.data.toList.take j)) ∧ Below W1.heap.size W1 wr) (fun _ i _ => b.size - (intOf i).toNat)
  case atStart => exact ⟨0, Nat.zero_le _, rfl, rfl, Below.refl _ _⟩
  case round =>
    obtain ⟨j, hj, rfl, rfl, hbel⟩ := hrel
    have k0 := cell_kept hbel HC.out.1
    have k1 := cell_kept hbel HC.out.2.1
    have k2 := cell_kept hbel HC.out.2.2.1
    have k3 := cell_kept hbel HC.out.2.2.2
    simp at k0 k1 k2 k3
    have HN := Hid.mk (crcR_lt s p f HP.out HF.out (b.data.toList.take j))
    by_cases hlt : j < b.size
    · have hbit := rowB_at HR.out j hlt
      have hd := (bit_dig hbit).2
      have hd1 := (bit_dig hbit).1
      have HT := Hid.mk (take_snoc b j hlt)
      have hbn := rowB_at' HR.out j hlt
      have hb48 : (48 : Int) ≤ (b[j].toNat : Int) := by omega
      have hb49 : (b[j].toNat : Int) ≤ 49 := by omega
      have HD : Hid (IntKind.i64.wrap (IntKind.u8.wrap ((b[j].toNat : Int) - 48)) = ((dig b[j] : Nat) : Int)) := by
        refine Hid.mk ?_
        rw [hd]
        have e1 : IntKind.u8.wrap ((b[j].toNat : Int) - 48) = (b[j].toNat : Int) - 48 := by simp [IntKind.wrap, IntKind.bits, IntKind.signed]; omega
        rw [e1, IntKind.wrap_i64]; omega
      clear hd hd1 hbit hbn
      go_wp2_with fail
      set_option maxRecDepth 100000 in
      go_region_with (go_at_call 89; rw [HD.out]; refine (next_any s p f en _ (dig b[j]) _ hs1 hs HP.out HN.out).mono ?_; rintro e w2 ⟨rfl, hb2⟩)
      all_goals focus
        have hbel2 : Below W1.heap.size W1 w2 := hbel.drew.trans (hb2.mono hbel.size)
        rw [← crcR_snoc, ← HT.out]
        clear hb2 hbel k0 k1 k2 k3 HD HN
        go_wp2_with fail
        go_roundw
        case rel => exact ⟨j + 1, by omega, by go_num, rfl, hbel2⟩
        case measure => simp [intOf]; omega
    · have e : j = b.size := by omega
      subst e
      rw [List.take_of_length_le (by rw [HL.out]; exact Nat.le_refl _)] at HN ⊢
      have hx := xor_i64 _ _ (up_lt' (c := 62) HN.out (by omega)) (up_lt' (c := 62) HE.out (by omega))
      have hr := row_ok (crcR s p f b.data.toList ^^^ en) s wr (by omega) (Nat.xor_lt_two_pow HN.out HE.out)
      have HX := Hid.mk hx
      have HRO := Hid.mk hr
      clear hx hr
      go_wp2_with fail
      rw [HX.out]
      refine HRO.out.mono ?_
      rintro e w2 ⟨rfl, hb2⟩
      go_wp2_with fail
      go_ret2
      exact ⟨rfl, hb1.trans ((hbel.trans (hb2.mono hbel.size)).mono hb1.size)⟩
end Bw
end Go.Proofs.YtdhmjbnpdmneiadDoor

/- What check.Sum answers, errors too, where the table of kinds lies as its initialiser lays it. -/
namespace Go.Proofs.YtdhmjbnpdmneiadDoor
open Go.ChangeShapes Go.WideShapes Go.ChangeAt Go.RowKit
namespace Bw
open Bm Cm

/-- the table of kinds, cell by cell -/
def RulesAt (w : World) : Prop := ∀ k, k ≤ 4 → w.cell? ⟨1, k * 4, none⟩ = some (.int .i64 (kS k)) ∧ w.cell? ⟨1, k * 4 + 1, none⟩ = some (.int .i64 (kP k)) ∧ w.cell? ⟨1, k * 4 + 2, none⟩ = some (.int .i64 (kF k)) ∧ w.cell? ⟨1, k * 4 + 3, none⟩ = some (.int .i64 (kE k))
theorem RulesAt.kept {w w' : World} (h : RulesAt w) (hb : Below w.heap.size w w') : RulesAt w' := fun k hk =>
  ⟨cell_kept hb (h k hk).1, cell_kept hb (h k hk).2.1, cell_kept hb (h k hk).2.2.1, cell_kept hb (h k hk).2.2.2⟩

set_option maxHeartbeats 1000000 in
theorem isKind_any (k : Int) (w : World) :
    Calls Tryd.prog 66 #[.int .i64 k] w fun e w' => e = .returned (.bool (decide (0 ≤ k) && decide (k < 5))) ∧ w' = w := by
  by_cases h : 0 ≤ k
  · have h0 : decide (k ≥ 0) = true := by simpa using h
    have h0' : decide (0 ≤ k) = true := by simpa using h
    go_enter Tryd.func66, Tryd.ntmps66
    go_wp2_with fail
    go_ret
    exact ⟨by first | rfl | (rw [h0']; rfl), rfl⟩
  · have h0 : decide (k ≥ 0) = false := by simpa using h
    have h0' : decide (0 ≤ k) = false := by simpa using h
    go_enter Tryd.func66, Tryd.ntmps66
    go_wp2_with fail
    go_ret
    exact ⟨by first | rfl | (rw [h0']; rfl), rfl⟩
theorem isKind_yes (k : Nat) (w : World) (hk : k ≤ 4) : Calls Tryd.prog 66 #[.int .i64 k] w fun e w' => e = .returned (.bool true) ∧ w' = w :=
  (isKind_any k w).mono fun e w' ⟨h1, h2⟩ => ⟨by
    have a : decide ((0 : Int) ≤ (k : Int)) = true := by simp
    have b : decide ((k : Int) < 5) = true := by simp; omega
    rw [h1, a, b]; rfl, h2⟩
theorem isKind_no (k : Int) (w : World) (hk : k < 0 ∨ 4 < k) : Calls Tryd.prog 66 #[.int .i64 k] w fun e w' => e = .returned (.bool false) ∧ w' = w :=
  (isKind_any k w).mono fun e w' ⟨h1, h2⟩ => ⟨by
    have : (decide ((0 : Int) ≤ k) && decide (k < 5)) = false := by
      rcases hk with h | h
      · have : decide ((0 : Int) ≤ k) = false := by simpa using h
        rw [this]; rfl
      · have : decide (k < 5) = false := by simp; omega
        rw [this]; simp
    rw [h1, this], h2⟩

set_option maxHeartbeats 2000000 in
theorem sum_bad (k : Int) (b : ByteArray) (w : World) (hb : b.size ≤ maxLen) (hc : checkE b.data.toList ≠ 0) :
    Calls Tryd.prog 36 #[.int .i64 k, .string b] w fun e w' => e = .returned (.tuple #[.string ⟨#[]⟩, .int .i64 (checkE b.data.toList)]) ∧ Below w.heap.size w w' := by
  have h1 := check_any b w hb
  have hne : (checkE b.data.toList != 0) = true := by simpa using hc
  generalize checkE b.data.toList = ce at *
  go_enter Tryd.func36, Tryd.ntmps36
  go_wp2_with fail
  refine h1.mono ?_
  rintro e w1 ⟨rfl, hb1⟩
  go_wp2_with fail
  go_ret2
  exact ⟨rfl, hb1⟩
set_option maxHeartbeats 2000000 in
theorem sum_who (k : Int) (b : ByteArray) (w : World) (hb : b.size ≤ maxLen) (hc : checkE b.data.toList = 0) (hk : k < 0 ∨ 4 < k) :
    Calls Tryd.prog 36 #[.int .i64 k, .string b] w fun e w' => e = .returned (.tuple #[.string ⟨#[]⟩, .int .i64 8]) ∧ Below w.heap.size w w' := by
  have h1 := check_any b w hb
  rw [hc] at h1
  have HK := Hid.mk hk
  clear hk hc
  go_enter Tryd.func36, Tryd.ntmps36
  go_wp2_with fail
  refine h1.mono ?_
  rintro e w1 ⟨rfl, hb1⟩
  clear h1
  go_wp2_with fail
  refine (isKind_no k w1 HK.out).mono ?_
  rintro e w2 ⟨rfl, hw2⟩
  subst hw2
  go_wp2_with fail
  go_ret2
  exact ⟨rfl, hb1⟩
set_option maxHeartbeats 2000000 in
theorem sum_ok (k : Nat) (b : ByteArray) (w : World) (hR : RulesAt w) (hc : checkE b.data.toList = 0) (hk : k ≤ 4) :
    Calls Tryd.prog 36 #[.int .i64 k, .string b] w fun e w' => e = .returned (.tuple #[.string ⟨(sumL k b.data.toList).toArray⟩, .int .i64 0]) ∧ Below w.heap.size w w' := by
  obtain ⟨h1000, hrow⟩ := small_of_check hc
  have h1 := check_any b w (by unfold maxLen; omega)
  rw [hc] at h1
  obtain ⟨s8, s21, p1, hp, hf, he, _⟩ := kinds_ok k hk
  have h2 := fun W => sumR_any (kS k) (kP k) (kF k) (kE k) b W (by omega) s21 hp hf he h1000 hrow
  have H2 := Hid.mk h2
  have H3 := Hid.mk hR
  have hk' : (k : Int) < 5 := by omega
  clear hR hc hp hf he hrow h2
  go_enter Tryd.func36, Tryd.ntmps36
  go_wp2_with fail
  refine h1.mono ?_
  rintro e w1 ⟨rfl, hb1⟩
  clear h1
  obtain ⟨c0, c1, c2, c3⟩ := H3.out.kept hb1 k hk
  go_wp2_with fail
  refine (isKind_yes k w1 hk).mono ?_
  rintro e w2 ⟨rfl, hw2⟩
  subst hw2
  go_wp2_with fail
  refine (H2.out _).mono ?_
  rintro e w3 ⟨rfl, hb3⟩
  go_wp2_with fail
  go_ret2
  exact ⟨rfl, bl2 hb1 hb3⟩

end Bw
end Go.Proofs.YtdhmjbnpdmneiadDoor

/- What the small parts of package stuff answer: the other bit, whether a length is one, and the run that takes a bit more. -/
namespace Go.Proofs.YtdhmjbnpdmneiadDoor
open Go.ChangeShapes Go.WideShapes Go.ChangeAt Go.RowKit
namespace Bw
open Bm

/-- but for one block all is as it was -/
structure AtOnly (g : Nat) (w w' : World) : Prop where
  os : w'.os = w.os
  tape : w'.tape = w.tape
  output : w'.output = w.output
  size : w'.heap.size = w.heap.size
  block : ∀ k, k ≠ g → w'.heap[k]? = w.heap[k]?
theorem AtOnly.setCell (w : World) (a : Addr) (u : Value) : AtOnly a.block w (w.setCell a u) :=
  ⟨rfl, rfl, rfl, by simp [World.setCell], fun _ hk => Below.heap_setCell _ _ _ _ hk⟩
theorem AtOnly.trans {g : Nat} {a b c : World} (h : AtOnly g a b) (k : AtOnly g b c) : AtOnly g a c :=
  ⟨k.os.trans h.os, k.tape.trans h.tape, k.output.trans h.output, k.size.trans h.size, fun i hi => (k.block i hi).trans (h.block i hi)⟩
theorem AtOnly.below {g B : Nat} {w w' : World} (h : AtOnly g w w') (hB : B ≤ g) : Below B w w' :=
  ⟨h.os, h.tape, h.output, by rw [h.size]; exact Nat.le_refl _, fun k hk => h.block k (by omega)⟩
theorem AtOnly.owns {g : Nat} {w w' : World} (h : AtOnly g w w') {base : Nat} {e : TypeId} {size : Nat} {v : Value} {n : Nat} {xs : List Value} (ho : w.ownsRow base e size v n xs) (hb : g < base) : w'.ownsRow base e size v n xs := by
  obtain ⟨h1, h2⟩ := ho
  refine ⟨h1, ?_⟩
  rcases h2 with h2 | ⟨k, cap, cur, hv, hk, hh, r⟩
  · exact Or.inl h2
  · exact Or.inr ⟨k, cap, cur, hv, hk, by rw [h.block k (by omega)]; exact hh, r⟩

def isRun (w : World) (g : Nat) (p : UInt8 × Nat) : Prop := w.heap[g]? = some (.cells #[.int .u8 p.1.toNat, .int .i64 p.2] 100 (0, 0))
theorem two_set0 {w : World} {b : Nat} {v x u : Value} {t : TypeId} (h : w.heap[b]? = some (.cells #[v, x] t (0, 0))) : (w.setCell ⟨b, 0, none⟩ u).heap[b]? = some (.cells #[u, x] t (0, 0)) := by
  have hlt := lt_of_block h
  have h' : w.heap[b] = .cells #[v, x] t (0, 0) := by simpa [Array.getElem?_eq_getElem hlt] using h
  show (w.heap.modify b _)[b]? = _
  rw [Array.getElem?_eq_getElem (by simpa using hlt), Array.getElem_modify_self, h']
  rfl
theorem two_set1 {w : World} {b : Nat} {v x u : Value} {t : TypeId} (h : w.heap[b]? = some (.cells #[v, x] t (0, 0))) : (w.setCell ⟨b, 1, none⟩ u).heap[b]? = some (.cells #[v, u] t (0, 0)) := by
  have hlt := lt_of_block h
  have h' : w.heap[b] = .cells #[v, x] t (0, 0) := by simpa [Array.getElem?_eq_getElem hlt] using h
  show (w.heap.modify b _)[b]? = _
  rw [Array.getElem?_eq_getElem (by simpa using hlt), Array.getElem_modify_self, h']
  rfl

set_option maxHeartbeats 1000000 in
theorem otherS_any (c : UInt8) (w : World) (h : bit c = true) :
    Calls Tryd.prog 69 #[.int .u8 c.toNat] w fun e w' => e = .returned (.int .u8 (otb c).toNat) ∧ w' = w := by
  rcases (bit_iff c).1 h with h | h
  · have : c = 48 := UInt8.toNat_inj.1 (by show c.toNat = 48; omega)
    subst this
    go_enter Tryd.func69, Tryd.ntmps69
    go_wp2; go_ret; exact ⟨rfl, rfl⟩
  · have : c = 49 := UInt8.toNat_inj.1 (by show c.toNat = 49; omega)
    subst this
    go_enter Tryd.func69, Tryd.ntmps69
    go_wp2; go_ret; exact ⟨rfl, rfl⟩

set_option maxHeartbeats 2000000 in
theorem add_same (g : Nat) (c : UInt8) (n : Nat) (w : World) (hn : n ≤ 1000) (hg : isRun w g (c, n)) :
    Calls Tryd.prog 68 #[.pointer (some ⟨g, 0, none⟩), .int .u8 c.toNat] w fun e w' => e = .returned (.bool ((n : Int) + 1 == 5)) ∧ isRun w' g (c, n + 1) ∧ AtOnly g w w' := by
  unfold isRun at *
  have c0 := cell_of_row w g 0 _ _ _ hg
  have c1 := cell_of_row w g 1 _ _ _ hg
  have f0 : w.frozen? ⟨g, 0, none⟩ = false := by simp [World.frozen?, hg]
  have f1 : w.frozen? ⟨g, 1, none⟩ = false := by simp [World.frozen?, hg]
  simp at c0 c1
  have HG := Hid.mk hg
  clear hg
  go_enter Tryd.func68, Tryd.ntmps68
  go_wp2
  go_ret
  exact ⟨rfl, two_set1 HG.out, AtOnly.setCell w ⟨g, 1, none⟩ _⟩

set_option maxHeartbeats 2000000 in
theorem add_other (g : Nat) (d c : UInt8) (n : Nat) (w : World) (hne : c ≠ d) (hg : isRun w g (d, n)) :
    Calls Tryd.prog 68 #[.pointer (some ⟨g, 0, none⟩), .int .u8 c.toNat] w fun e w' => e = .returned (.bool false) ∧ isRun w' g (c, 1) ∧ AtOnly g w w' := by
  unfold isRun at *
  have c0 := cell_of_row w g 0 _ _ _ hg
  have c1 := cell_of_row w g 1 _ _ _ hg
  have f0 : w.frozen? ⟨g, 0, none⟩ = false := by simp [World.frozen?, hg]
  have f1 : w.frozen? ⟨g, 1, none⟩ = false := by simp [World.frozen?, hg]
  have hne' : ((c.toNat : Int) == (d.toNat : Int)) = false := by
    have : c.toNat ≠ d.toNat := fun h => hne (UInt8.toNat_inj.1 h)
    rw [beq_eq_false_iff_ne]; omega
  have c2 := cell_of_row _ g 1 _ _ _ (two_set1 (u := .int .i64 1) (two_set1 (u := .int .i64 0) (two_set0 (u := .int .u8 c.toNat) hg)))
  simp only [List.getElem?_toArray, List.getElem?_cons_succ, List.getElem?_cons_zero] at c2
  simp at c0 c1
  have HG := Hid.mk hg
  clear hg hne
  go_enter Tryd.func68, Tryd.ntmps68
  go_wp2
  go_ret
  exact ⟨rfl, two_set1 (two_set1 (two_set0 HG.out)), ((AtOnly.setCell w ⟨g, 0, none⟩ _).trans (AtOnly.setCell _ ⟨g, 1, none⟩ _)).trans (AtOnly.setCell _ ⟨g, 1, none⟩ _)⟩

theorem add_any (g : Nat) (p : UInt8 × Nat) (c : UInt8) (w : World) (hn : p.2 ≤ 1000) (hg : isRun w g p) :
    Calls Tryd.prog 68 #[.pointer (some ⟨g, 0, none⟩), .int .u8 c.toNat] w fun e w' => e = .returned (.bool ((addR p c).2 == 5)) ∧ isRun w' g (addR p c) ∧ AtOnly g w w' := by
  by_cases h : c = p.1
  · subst h
    rw [addR_same]
    refine (add_same g p.1 p.2 w hn hg).mono ?_
    rintro e w' ⟨rfl, h1, h2⟩
    refine ⟨?_, h1, h2⟩
    congr 2
    rw [Bool.eq_iff_iff]
    simp only [beq_iff_eq]
    omega
  · rw [addR_other h]
    exact add_other g p.1 c p.2 w h hg

set_option maxHeartbeats 400000 in
theorem isLength_yes (n : Int) (w : World) (h0 : 0 ≤ n) (h1 : n ≤ 1000) :
    Calls Tryd.prog 106 #[.int .i64 n] w fun e w' => e = .returned (.bool true) ∧ w' = w := by
  go_enter Tryd.func106, Tryd.ntmps106
  go_wp2; go_ret; exact ⟨rfl, rfl⟩
set_option maxHeartbeats 400000 in
theorem isLength_no (n : Int) (w : World) (h : n < 0 ∨ 1000 < n) :
    Calls Tryd.prog 106 #[.int .i64 n] w fun e w' => e = .returned (.bool false) ∧ w' = w := by
  by_cases h0 : n < 0
  · clear h
    go_enter Tryd.func106, Tryd.ntmps106
    go_wp2; go_ret; exact ⟨rfl, rfl⟩
  · have h1 : 1000 < n := by omega
    have h2 : 0 ≤ n := by omega
    have h3 : decide (n ≤ 1000) = false := by simpa using h1
    clear h h0
    go_enter Tryd.func106, Tryd.ntmps106
    go_wp2; go_ret; exact ⟨rfl, rfl⟩
end Bw
end Go.Proofs.YtdhmjbnpdmneiadDoor

/- What stuff.Fixed answers of any text and any byte: a bit ahead of each fourth, and else which error. -/
namespace Go.Proofs.YtdhmjbnpdmneiadDoor
open Go.ChangeShapes Go.WideShapes Go.ChangeAt Go.RowKit
namespace Bw
open Bm

set_option maxHeartbeats 1000000 in
theorem fixed_bad (s : ByteArray) (a : Int) (w : World) (hs : s.size ≤ maxLen) (hc : checkE s.data.toList ≠ 0) :
    Calls Tryd.prog 71 #[.string s, .int .u8 a] w fun e w' => e = .returned (.tuple #[.string ⟨#[]⟩, .int .i64 (checkE s.data.toList)]) ∧ Below w.heap.size w w' := by
  have HS := Hid.mk hs
  have hc' : (checkE s.data.toList == 0) = false := by simpa using hc
  clear hs
  go_enter Tryd.func71, Tryd.ntmps71
  go_wp2_with fail
  refine (check_any s w HS.out).mono ?_
  rintro e w1 ⟨rfl, hb1⟩
  go_wp2_with fail
  go_ret2
  exact ⟨rfl, hb1⟩

set_option maxHeartbeats 1000000 in
theorem fixed_range (s : ByteArray) (a : Int) (w : World) (hc : checkE s.data.toList = 0) (h0 : a ≠ 48) (h1 : a ≠ 49) :
    Calls Tryd.prog 71 #[.string s, .int .u8 a] w fun e w' => e = .returned (.tuple #[.string ⟨#[]⟩, .int .i64 3]) ∧ Below w.heap.size w w' := by
  obtain ⟨h1000, hrow⟩ := small_of_check hc
  have hck := fun W => check_any s W (by unfold maxLen; omega)
  rw [hc] at hck
  have h0' : (a != 48) = true := by simpa using h0
  have h1' : (a != 49) = true := by simpa using h1
  clear hc hrow h0 h1
  go_enter Tryd.func71, Tryd.ntmps71
  go_wp2_with fail
  refine (hck w).mono ?_
  rintro e w1 ⟨rfl, hb1⟩
  clear hck
  go_wp2_with fail
  go_ret2
  exact ⟨rfl, hb1⟩

theorem bit_bools {c : UInt8} (h : bit c = true) : ((c.toNat : Int) != 48 && (c.toNat : Int) != 49) = false := by
  rcases (bit_iff c).1 h with h | h <;> rw [h] <;> rfl

set_option maxHeartbeats 8000000 in
theorem fixed_ok (s : ByteArray) (a : UInt8) (w : World) (hc : checkE s.data.toList = 0) (ha : bit a = true) :
    Calls Tryd.prog 71 #[.string s, .int .u8 a.toNat] w fun e w' => e = .returned (.tuple #[.string ⟨(fixR s.data.toList a s.size).toArray⟩, .int .i64 0]) ∧ Below w.heap.size w w' := by
  obtain ⟨i0, hi, hz0, hz1, hz2⟩ := info_parts info_u8
  obtain ⟨h1000, hrow⟩ := small_of_check hc
  have hck := fun W => check_any s W (by unfold maxLen; omega)
  rw [hc] at hck
  have HR := Hid.mk hrow
  have HA := Hid.mk ha
  have hll : s.data.toList.length = s.size := by simp
  have HLL := Hid.mk hll
  have hab : ((a.toNat : Int) != 48) = false ∨ (((a.toNat : Int) != 48) = true ∧ ((a.toNat : Int) != 49) = false) := by
    rcases (bit_iff a).1 ha with h | h
    · left; rw [h]; rfl
    · right; rw [h]; exact ⟨rfl, rfl⟩
  clear hc hrow ha hll
  go_enter Tryd.func71, Tryd.ntmps71
  go_wp2_with fail
  refine (hck w).mono ?_
  rintro e w1 ⟨rfl, hb1⟩
  clear hck
  have hw1 := hb1.size
  rcases hab with hab | ⟨hab, hab2⟩
  all_goals focus
    go_wp2_with fail
    go_loopw [1, 7, 22] (fun av r i wr => ∃ k : Nat, k ≤ s.size ∧ i = .int .i64 k ∧ av = .int .u8 (fixP s.data.toList a k).toNat ∧ wr.ownsRow w.heap.size 5 1 r (fixR s.data.toList a k).length (cellsOf (fixR s.data.toList a k)) ∧ Below w.heap.size w wr) (fun _ _ i _ => s.size - (intOf i).toNat)
    case atStart => exact ⟨0, Nat.zero_le _, rfl, rfl, World.ownsRow_nil _ _ _ _, hb1⟩
    case round =>
      obtain ⟨k, hk, rfl, rfl, hown, hbel⟩ := hrel
      obtain ⟨o, ho⟩ : ∃ o, o = fixR s.data.toList a k := ⟨_, rfl⟩
      obtain ⟨p, hp⟩ : ∃ p, p = fixP s.data.toList a k := ⟨_, rfl⟩
      rw [← ho] at hown
      rw [← hp]
      have hsz := hbel.size
      have hol : o.length ≤ 2000 := by
        have := fixR_len s.data.toList a k
        rw [← ho] at this
        omega
      have hpb : bit p = true := by
        rw [hp]
        cases k with
        | zero => exact HA.out
        | succ k => rw [show fixP s.data.toList a (k + 1) = s.data.toList.getD k 0 from rfl, ← at_getD s k (by omega)]; exact rowB_at HR.out k (by omega)
      have HO := Hid.mk ho
      have HP := Hid.mk hp
      have HPB := Hid.mk hpb
      clear ho hp hpb
      by_cases hlt : k < s.size
      · have hlt' : (k : Int) < (s.size : Int) := by omega
        obtain ⟨c, hcE⟩ : ∃ c, c = s[k] := ⟨_, rfl⟩
        have hgd : s.data.toList.getD k 0 = c := by rw [hcE, at_getD s k hlt]
        have hP2 : fixP s.data.toList a (k + 1) = c := hgd
        have HP2 := Hid.mk hP2
        have HGD := Hid.mk hgd
        have hcv : s[k] = c := hcE.symm
        clear hcE hgd hP2
        by_cases h4 : k % 4 = 0
        · have h4' : ((k : Int) % 4 == 0) = true := by simp; omega
          have hnext : fixR s.data.toList a (k + 1) = o ++ [otb p] ++ [c] := by rw [fixR, if_pos h4, ← HO.out, ← HP.out, HGD.out]
          have HN := Hid.mk hnext
          clear hnext h4
          go_wp2_with fail
          refine (otherS_any p _ HPB.out).mono ?_
          rintro e w2 ⟨rfl, hw2⟩
          subst hw2
          have hol2 : (o ++ [otb p]).length ≤ 2001 := by rw [List.length_append]; simp; omega
          go_wp2_with (first
            | (at_builtin; refine wpList_append_own _ rfl (.tmp 28) (.tmp 31) 28 rfl w.heap.size 5 i0 (.int .u8 0) 1 1 Tryd.underlying28 hi hz0 hz1 hz2 rfl (by decide) _ _ _ rfl (hown.alloc _) ⟨w2.heap.size, 0, none⟩ 1 1 [Value.int .u8 (otb p).toNat] rfl rfl (by intro q u hq; match q, hq with | 0, hq => (simp at hq; subst hq; simp [Addr.add])) (by intro u hu; simp at hu; subst hu; rfl) (by unfold maxLen; omega) (by omega) (by simp; omega) ?_; intro v1 w3 hown1 hgrow1 _
               have hbel3 : Below w.heap.size w w3 := Below.grown (hbel.alloc hsz _) hgrow1 (by simp; omega) (fun q hq => (hown.lt q hq).1)
               have hown1' : w3.ownsRow w.heap.size 5 1 v1 (o ++ [otb p]).length (cellsOf (o ++ [otb p])) := by
                 rw [cellsOf_append, List.length_append]; exact hown1
               have hsz3 := hbel3.size
               clear hown hown1 hgrow1 hbel hsz)
            | (at_builtin; refine wpList_append_own _ rfl (.tmp 33) (.tmp 37) 28 rfl w.heap.size 5 i0 (.int .u8 0) 1 1 Tryd.underlying28 hi hz0 hz1 hz2 rfl (by decide) _ _ _ rfl (hown1'.alloc _) ⟨w3.heap.size, 0, none⟩ 1 1 [Value.int .u8 c.toNat] rfl rfl (by intro q u hq; match q, hq with | 0, hq => (simp at hq; subst hq; simp [Addr.add])) (by intro u hu; simp at hu; subst hu; rfl) (by unfold maxLen; omega) (by omega) (by simp; omega) ?_; intro v4 w4 hown4 hgrow4 _))
          have hbel4 : Below w.heap.size w w4 := Below.grown (hbel3.alloc hsz3 _) hgrow4 (by simp; omega) (fun q hq => (hown1'.lt q hq).1)
          have hown4' : w4.ownsRow w.heap.size 5 1 v4 (o ++ [otb p] ++ [c]).length (cellsOf (o ++ [otb p] ++ [c])) := by
            rw [cellsOf_append, show (o ++ [otb p] ++ [c]).length = (o ++ [otb p]).length + 1 from List.length_append ..]; exact hown4
          clear hown1' hown4 hgrow4 hbel3 hsz3
          go_wp2_with fail
          go_roundw
          case rel => exact ⟨k + 1, by omega, by go_num, by rw [HP2.out], by rw [HN.out]; exact hown4', hbel4⟩
          case measure => simp [intOf]; omega
        · have h4' : ((k : Int) % 4 == 0) = false := by rw [beq_eq_false_iff_ne]; omega
          have hnext : fixR s.data.toList a (k + 1) = o ++ [c] := by rw [fixR, if_neg h4, ← HO.out, HGD.out]
          have HN := Hid.mk hnext
          clear hnext h4
          go_wp2_with (at_builtin; refine wpList_append_own _ rfl (.tmp 33) (.tmp 37) 28 rfl w.heap.size 5 i0 (.int .u8 0) 1 1 Tryd.underlying28 hi hz0 hz1 hz2 rfl (by decide) _ _ _ rfl (hown.alloc _) ⟨wr.heap.size, 0, none⟩ 1 1 [Value.int .u8 c.toNat] rfl rfl (by intro q u hq; match q, hq with | 0, hq => (simp at hq; subst hq; simp [Addr.add])) (by intro u hu; simp at hu; subst hu; rfl) (by unfold maxLen; omega) (by omega) (by simp; omega) ?_; intro v4 w4 hown4 hgrow4 _)
          have hbel4 : Below w.heap.size w w4 := Below.grown (hbel.alloc hsz _) hgrow4 (by simp; omega) (fun q hq => (hown.lt q hq).1)
          have hown4' : w4.ownsRow w.heap.size 5 1 v4 (o ++ [c]).length (cellsOf (o ++ [c])) := by
            rw [cellsOf_append, List.length_append]; exact hown4
          clear hown hown4 hgrow4 hbel hsz
          go_wp2_with fail
          go_roundw
          case rel => exact ⟨k + 1, by omega, by go_num, by rw [HP2.out], by rw [HN.out]; exact hown4', hbel4⟩
          case measure => simp [intOf]; omega
      · have e : k = s.size := by omega
        subst e
        have hfin := HO.out
        subst hfin
        have hcv := convert_own hown
        clear hown
        go_wp2_with fail
        go_ret2
        exact ⟨rfl, hbel⟩
end Bw
end Go.Proofs.YtdhmjbnpdmneiadDoor

/- What frame.fixedPart answers: the count and the sum of a fast frame, with its fixed bits. -/
namespace Go.Proofs.YtdhmjbnpdmneiadDoor
open Go.ChangeShapes Go.WideShapes Go.ChangeAt Go.RowKit
namespace Bw
open Bm Cm

def fixedL (p : List UInt8) (q n : Nat) : List UInt8 := fixL (grayL (q % 8) ++ sumL (endK n) (p ++ grayL (q % 8))) (lastB p)
theorem fastL_fixed (h p : List UInt8) (n : Nat) : fastL h p n = fixedL p (p.length - h.length) n := rfl
theorem fix_lenE (l : List UInt8) (a : UInt8) : ∀ i, (fixR l a i).length = i + (i + 3) / 4
  | 0 => rfl
  | i + 1 => by
    rw [fixR]
    have h := fix_lenE l a i
    split
    · simp [h]; omega
    · simp [h]; omega
theorem fixedL_len (p : List UInt8) (q n : Nat) : (fixedL p q n).length = if 16 < n then 32 else 27 := by
  unfold fixedL fixL
  rw [fix_lenE, List.length_append, sumL_len, (gray_row _ (Nat.mod_lt _ (by omega))).2]
  unfold endK
  split
  · rw [show kS 2 = 21 from rfl]
  · rw [show kS 1 = 17 from rfl]

set_option maxHeartbeats 4000000 in
theorem fixedPart_any (p : ByteArray) (q n : Nat) (w : World) (hR : RulesAt w) (hp1 : 1 ≤ p.size) (hp : p.size ≤ 990) (hrow : rowB p.data.toList = true) (hn : n ≤ 1000) :
    Calls Tryd.prog 38 #[.string p, .int .i64 q, .int .i64 n] w fun e w' => e = .returned (.string ⟨(fixedL p.data.toList q n).toArray⟩) ∧ Below w.heap.size w w' := by
  have hpl : p.data.toList.length = p.size := by simp
  have hm8 : q % 8 < 8 := Nat.mod_lt _ (by omega)
  have hgr := gray_row (q % 8) hm8
  have hco := fun W => countOf_any q W
  unfold fixedL fixL lastB
  rw [hpl]
  have hcl := mk_list (grayL (q % 8))
  generalize grayL (q % 8) = gl at *
  generalize ByteArray.mk gl.toArray = C at *
  have hCs : C.size = 4 := by rw [ba_size hcl, hgr.2]
  obtain ⟨Y, hY⟩ : ∃ Y, Y = p ++ C := ⟨_, rfl⟩
  have hYl : Y.data.toList = p.data.toList ++ gl := by rw [hY, ba_cat, hcl]
  have hYs : Y.size = p.size + 4 := by rw [ba_size hYl, List.length_append, hgr.2, hpl]
  have hYr : rowB Y.data.toList = true := by rw [hYl, rowB_append, hrow, hgr.1]; rfl
  have hYc : checkE Y.data.toList = 0 := checkE_row hYr (by simp; omega)
  have hso := fun W hW => sum_ok (endK n) Y W hW hYc (endK_le n)
  rw [hYl] at hso
  have hsl := mk_list (sumL (endK n) (p.data.toList ++ gl))
  have hsn := sumL_len (endK n) (p.data.toList ++ gl)
  have hsr := sumL_row (endK n) (p.data.toList ++ gl)
  generalize sumL (endK n) (p.data.toList ++ gl) = sl at *
  generalize ByteArray.mk sl.toArray = S at *
  obtain ⟨Z, hZ⟩ : ∃ Z, Z = C ++ S := ⟨_, rfl⟩
  have hZl : Z.data.toList = gl ++ sl := by rw [hZ, ba_cat, hcl, hsl]
  have hk21 := (kinds_ok (endK n) (endK_le n)).2.1
  have hSs : S.size ≤ 21 := by rw [ba_size hsl, hsn]; exact hk21
  have hZs : Z.size = (gl ++ sl).length := ba_size hZl
  have hZr : rowB Z.data.toList = true := by rw [hZl, rowB_append, hgr.1, hsr]; rfl
  have hZc : checkE Z.data.toList = 0 := checkE_row hZr (by rw [hZl, List.length_append, hgr.2, hsn]; omega)
  have hpz : p.size - 1 < p.size := by clear hYs hCs hZs; omega
  have hpi : p[p.size - 1] = p.data.toList.getD (p.size - 1) 0 := at_getD p _ hpz
  have hlb : bit (p.data.toList.getD (p.size - 1) 0) = true := by rw [← hpi]; exact rowB_at hrow _ hpz
  have hfx := fun W => fixed_ok Z (p.data.toList.getD (p.size - 1) 0) W hZc hlb
  rw [hZl, hZs] at hfx
  have HSO := Hid.mk hso
  have HFX := Hid.mk hfx
  have HYE := Hid.mk hY
  have HZE := Hid.mk hZ
  have HR := Hid.mk hR
  have HCO := Hid.mk hco
  have hCm : C.size ≤ 4 := by omega
  have hpe : (1 : Int) ≤ (p.size : Int) := by omega
  have hek : (endK n : Int) = if (16 : Int) < (n : Int) then 2 else 1 := by unfold endK; split <;> split <;> omega
  have hZn := congrArg List.length hZl
  generalize p.data.toList.getD (p.size - 1) 0 = lb at *
  generalize ByteArray.mk (fixR (gl ++ sl) lb (gl ++ sl).length).toArray = FB at *
  clear hpl hgr hcl hCs hYl hYs hYr hYc hso hsl hsn hsr hZl hZs hZr hZc hfx hY hZ hrow hR hco hlb hZn hm8
  by_cases h16 : (16 : Int) < (n : Int)
  · rw [if_pos h16] at hek
    have hs2 := HSO.out
    simp only [hek, HYE.out] at hs2
    have HS2 := Hid.mk hs2
    have hf2 := HFX.out
    simp only [HZE.out] at hf2
    have HF2 := Hid.mk hf2
    clear hek hs2 hf2
    go_enter Tryd.func38, Tryd.ntmps38
    go_wp2_with fail
    refine (HCO.out _).mono ?_
    rintro e w1 ⟨rfl, hb1⟩
    go_wp2_with fail
    refine (HS2.out _ (HR.out.kept hb1)).mono ?_
    rintro e w2 ⟨rfl, hb2⟩
    have hbel2 := bl2 hb1 hb2
    clear hb1 hb2
    go_wp2_with fail
    refine (HF2.out _).mono ?_
    rintro e w3 ⟨rfl, hb3⟩
    have hbel3 := bl2 hbel2 hb3
    clear hbel2 hb3
    go_wp2_with fail
    go_ret
    exact ⟨rfl, hbel3⟩
  · rw [if_neg h16] at hek
    have hs2 := HSO.out
    simp only [hek, HYE.out] at hs2
    have HS2 := Hid.mk hs2
    have hf2 := HFX.out
    simp only [HZE.out] at hf2
    have HF2 := Hid.mk hf2
    clear hek hs2 hf2
    go_enter Tryd.func38, Tryd.ntmps38
    go_wp2_with fail
    refine (HCO.out _).mono ?_
    rintro e w1 ⟨rfl, hb1⟩
    go_wp2_with fail
    refine (HS2.out _ (HR.out.kept hb1)).mono ?_
    rintro e w2 ⟨rfl, hb2⟩
    have hbel2 := bl2 hb1 hb2
    clear hb1 hb2
    go_wp2_with fail
    refine (HF2.out _).mono ?_
    rintro e w3 ⟨rfl, hb3⟩
    have hbel3 := bl2 hbel2 hb3
    clear hbel2 hb3
    go_wp2_with fail
    go_ret
    exact ⟨rfl, hbel3⟩
end Bw
end Go.Proofs.YtdhmjbnpdmneiadDoor

/- What stuff.Put answers of any text: the row with a bit put in behind each five alike, and else which error. -/
namespace Go.Proofs.YtdhmjbnpdmneiadDoor
open Go.ChangeShapes Go.WideShapes Go.ChangeAt Go.RowKit
namespace Bw
open Bm

set_option maxHeartbeats 1000000 in
theorem put_bad (s : ByteArray) (w : World) (hs : s.size ≤ maxLen) (hc : checkE s.data.toList ≠ 0) :
    Calls Tryd.prog 37 #[.string s] w fun e w' => e = .returned (.tuple #[.string ⟨#[]⟩, .int .i64 (checkE s.data.toList)]) ∧ Below w.heap.size w w' := by
  have HS := Hid.mk hs
  have hc' : (checkE s.data.toList == 0) = false := by simpa using hc
  clear hs
  go_enter Tryd.func37, Tryd.ntmps37
  go_wp2_with fail
  refine (check_any s w HS.out).mono ?_
  rintro e w1 ⟨rfl, hb1⟩
  go_wp2_with fail
  go_ret2
  exact ⟨rfl, hb1⟩

theorem isRun_at {w w' : World} {B g : Nat} {p : UInt8 × Nat} (h : isRun w g p) (hb : Below B w w') (hg : g < B) : isRun w' g p := by
  unfold isRun at *
  rw [hb.block g hg]; exact h

set_option maxHeartbeats 8000000 in
theorem put_ok (s : ByteArray) (w : World) (hc : checkE s.data.toList = 0) :
    Calls Tryd.prog 37 #[.string s] w fun e w' => e = .returned (.tuple #[.string ⟨(putF s.data.toList).toArray⟩, .int .i64 0]) ∧ Below w.heap.size w w' := by
  obtain ⟨i0, hi, hz0, hz1, hz2⟩ := info_parts info_u8
  obtain ⟨h1000, hrow⟩ := small_of_check hc
  have hck := fun W => check_any s W (by unfold maxLen; omega)
  rw [hc] at hck
  have HR := Hid.mk hrow
  clear hc hrow
  go_enter Tryd.func37, Tryd.ntmps37
  go_wp2_with fail
  refine (hck w).mono ?_
  rintro e w1 ⟨rfl, hb1⟩
  clear hck
  have hw1 := hb1.size
  go_wp2_with fail
  go_loopw [5, 15] (fun r i wr => ∃ k : Nat, k ≤ s.size ∧ i = .int .i64 k ∧ wr.ownsRow (w1.heap.size + 1) 5 1 r (putF (s.data.toList.take k)).length (cellsOf (putF (s.data.toList.take k))) ∧ isRun wr w1.heap.size (endR (putF (s.data.toList.take k))) ∧ Below w.heap.size w wr ∧ w1.heap.size + 1 ≤ wr.heap.size) (fun _ i _ => s.size - (intOf i).toNat)
  case atStart => exact ⟨0, Nat.zero_le _, rfl, World.ownsRow_nil _ _ _ _, heap_alloc_new w1 _, hb1.alloc hw1 _, by simp⟩
  case round =>
    obtain ⟨k, hk, rfl, hown, hrun, hbel, hsz⟩ := hrel
    obtain ⟨o, ho⟩ : ∃ o, o = putF (s.data.toList.take k) := ⟨_, rfl⟩
    rw [← ho] at hown hrun
    have HO := Hid.mk ho
    have hol : o.length ≤ 2000 := by
      have := putF_len2 (s.data.toList.take k)
      rw [← ho, List.length_take] at this
      omega
    have h4 : (endR o).2 ≤ 4 := by rw [ho]; exact putF_keep _ (rowB_take HR.out k)
    have H4 := Hid.mk h4
    have HRUN := Hid.mk hrun
    clear ho h4 hrun
    by_cases hlt : k < s.size
    · have hlt' : (k : Int) < (s.size : Int) := by omega
      obtain ⟨c, hcE⟩ : ∃ c, c = s[k] := ⟨_, rfl⟩
      have hbit : bit c = true := by rw [hcE]; exact rowB_at HR.out k hlt
      have hnext : putF (s.data.toList.take (k + 1)) = putS o c := by rw [take_snoc s k hlt, putF_snoc, ← HO.out, hcE]
      have HN := Hid.mk hnext
      have HBIT := Hid.mk hbit
      have hcv : s[k] = c := hcE.symm
      clear hcE hnext hbit
      go_wp2_with (at_builtin; refine wpList_append_own _ rfl (.tmp 18) (.tmp 22) 28 rfl (w1.heap.size + 1) 5 i0 (.int .u8 0) 1 1 Tryd.underlying28 hi hz0 hz1 hz2 rfl (by decide) _ _ _ rfl (hown.alloc _) ⟨wr.heap.size, 0, none⟩ 1 1 [Value.int .u8 c.toNat] rfl rfl (by intro q u hq; match q, hq with | 0, hq => (simp at hq; subst hq; simp [Addr.add])) (by intro u hu; simp at hu; subst hu; rfl) (by unfold maxLen; omega) (by omega) (by simp; omega) ?_; intro v1 w2 hown1 hgrow1 _)
      have hbw2 : Below (w1.heap.size + 1) wr w2 := Below.grown ((Below.refl _ _).alloc hsz _) hgrow1 (by simp; omega) (fun q hq => (hown.lt q hq).1)
      have hrun2 := isRun_at HRUN.out hbw2 (by omega)
      have hbel2 := hbel.trans (hbw2.mono (Nat.le_trans hw1 (Nat.le_succ _)))
      have hsz2 : w1.heap.size + 1 ≤ w2.heap.size := Nat.le_trans hsz hbw2.size
      have hown1' : w2.ownsRow (w1.heap.size + 1) 5 1 v1 (o ++ [c]).length (cellsOf (o ++ [c])) := by
        rw [cellsOf_append, List.length_append]; exact hown1
      have HOWN1 := Hid.mk hown1'
      have hadd := add_any w1.heap.size (endR o) c w2 (by have := H4.out; omega) hrun2
      rw [← endR_snoc] at hadd
      have HADD := Hid.mk hadd
      clear hown hown1 hown1' hgrow1 hbw2 hbel hsz hrun2 HRUN hadd
      go_wp2_with fail
      refine HADD.out.mono ?_
      rintro e w3 ⟨rfl, hrun3, hat3⟩
      have hown3 := hat3.owns HOWN1.out (Nat.lt_succ_self _)
      have hbel3 := hbel2.trans (hat3.below hw1)
      have hsz3 : w1.heap.size + 1 ≤ w3.heap.size := by rw [hat3.size]; exact hsz2
      clear HOWN1 HADD hat3 hbel2 hsz2
      by_cases h5 : (endR (o ++ [c])).2 = 5
      · have h5b : ((endR (o ++ [c])).2 == 5) = true := by simpa using h5
        have hS : putS o c = o ++ [c] ++ [otb c] := by unfold putS; rw [if_pos h5]
        have HS := Hid.mk hS
        have HRUN3 := Hid.mk hrun3
        have H5 := Hid.mk h5
        have hol2 : (o ++ [c]).length ≤ 2001 := by rw [List.length_append]; simp; omega
        clear h5 hS hrun3
        go_wp2_with fail
        refine (otherS_any c w3 HBIT.out).mono ?_
        rintro e w3' ⟨rfl, hw3⟩
        subst hw3
        go_wp2_with (at_builtin; refine wpList_append_own _ rfl (.tmp 28) (.tmp 33) 28 rfl (w1.heap.size + 1) 5 i0 (.int .u8 0) 1 1 Tryd.underlying28 hi hz0 hz1 hz2 rfl (by decide) _ _ _ rfl (hown3.alloc _) ⟨w3'.heap.size, 0, none⟩ 1 1 [Value.int .u8 (otb c).toNat] rfl rfl (by intro q u hq; match q, hq with | 0, hq => (simp at hq; subst hq; simp [Addr.add])) (by intro u hu; simp at hu; subst hu; rfl) (by unfold maxLen; omega) (by omega) (by simp; omega) ?_; intro v4 w4 hown4 hgrow4 _)
        have hbw4 : Below (w1.heap.size + 1) w3' w4 := Below.grown ((Below.refl _ _).alloc hsz3 _) hgrow4 (by simp; omega) (fun q hq => (hown3.lt q hq).1)
        have hrun4 := isRun_at HRUN3.out hbw4 (by omega)
        have hbel4 := hbel3.trans (hbw4.mono (Nat.le_trans hw1 (Nat.le_succ _)))
        have hsz4 : w1.heap.size + 1 ≤ w4.heap.size := Nat.le_trans hsz3 hbw4.size
        have hown4' : w4.ownsRow (w1.heap.size + 1) 5 1 v4 (o ++ [c] ++ [otb c]).length (cellsOf (o ++ [c] ++ [otb c])) := by
          rw [cellsOf_append, show (o ++ [c] ++ [otb c]).length = (o ++ [c]).length + 1 from List.length_append ..]; exact hown4
        have HOWN4 := Hid.mk hown4'
        have HRUN4 := Hid.mk hrun4
        clear hown3 hown4 hown4' hgrow4 hbw4 hbel3 hsz3 hrun4 HRUN3
        go_wp2_with fail
        refine (otherS_any c w4 HBIT.out).mono ?_
        rintro e w4' ⟨rfl, hw4⟩
        subst hw4
        have hadd := add_any w1.heap.size (endR (o ++ [c])) (otb c) w4' (by have := H5.out; omega) HRUN4.out
        rw [← endR_snoc] at hadd
        have HADD := Hid.mk hadd
        clear hadd HRUN4
        go_wp2_with fail
        refine HADD.out.mono ?_
        rintro e w5 ⟨rfl, hrun5, hat5⟩
        have hown5 := hat5.owns HOWN4.out (Nat.lt_succ_self _)
        have hbel5 := hbel4.trans (hat5.below hw1)
        have hsz5 : w1.heap.size + 1 ≤ w5.heap.size := by rw [hat5.size]; exact hsz4
        clear HOWN4 HADD hat5 hbel4 hsz4
        go_wp2_with fail
        go_roundw
        case rel => exact ⟨k + 1, by omega, by go_num, by rw [HN.out, HS.out]; exact hown5, by rw [HN.out, HS.out]; exact hrun5, hbel5, hsz5⟩
        case measure => simp [intOf]; omega
      · have h5b : ((endR (o ++ [c])).2 == 5) = false := by simpa using h5
        have hS : putS o c = o ++ [c] := by unfold putS; rw [if_neg h5]
        have HS := Hid.mk hS
        clear h5 hS
        go_wp2_with fail
        go_roundw
        case rel => exact ⟨k + 1, by omega, by go_num, by rw [HN.out, HS.out]; exact hown3, by rw [HN.out, HS.out]; exact hrun3, hbel3, hsz3⟩
        case measure => simp [intOf]; omega
    · have e : k = s.size := by omega
      subst e
      have hfin : o = putF s.data.toList := by rw [HO.out, List.take_of_length_le (by simp)]
      subst hfin
      have hcv := convert_own hown
      clear hown
      go_wp2_with fail
      go_ret2
      exact ⟨rfl, hbel⟩

/-- what Put answers of any text -/
def putA (l : List UInt8) : Value := if checkE l = 0 then .tuple #[.string ⟨(putF l).toArray⟩, .int .i64 0] else .tuple #[.string ⟨#[]⟩, .int .i64 (checkE l)]
theorem put_any (s : ByteArray) (w : World) (hs : s.size ≤ maxLen) :
    Calls Tryd.prog 37 #[.string s] w fun e w' => e = .returned (putA s.data.toList) ∧ Below w.heap.size w w' := by
  unfold putA
  by_cases hc : checkE s.data.toList = 0
  · rw [if_pos hc]; exact put_ok s w hc
  · rw [if_neg hc]; exact put_bad s w hs hc
end Bw
end Go.Proofs.YtdhmjbnpdmneiadDoor
