/- Joined out of our texts: FrRead7, ShelfCnt, FrCount, StuffFixed, FrFixed, ReadInv, FrRead8. -/
import Derived.Test.YtdhmjbnpdmneiacDoorLawFrameLongestPAA
import Derived.Shelf.Strings.Count
import Derived.Test.YtdhmjbnpdmneiacDoorProg
import Derived.Test.YtdhmjbnpdmneiacDoorLawFrameLongestPAC
import Derived.Test.YtdhmjbnpdmneiacDoorLawFrameLongestRAG
import Derived.Test.YtdhmjbnpdmneiacDoorLawFrameLongestPAB
/- What unfixed answers. -/
namespace Go.Proofs.YtdhmjbnpdmneiacDoor
open Go.ChangeShapes Go.WideShapes Go.ChangeAt Go.RowKit
namespace Bw
open Bm Cm

theorem unfixL_snoc : ∀ (x : List UInt8) (j : Nat) (c : UInt8), unfixL (x ++ [c]) j = unfixL x j ++ (if (j + x.length) % 5 = 0 then [] else [c])
  | [], j, c => by simp only [List.nil_append, unfixL, List.length_nil, Nat.add_zero]
  | d :: x, j, c => by
    rw [List.cons_append, unfixL, unfixL, unfixL_snoc x (j + 1) c, List.length_cons, show j + 1 + x.length = j + (x.length + 1) by omega]
    split <;> simp
theorem unfixL_len : ∀ (x : List UInt8) (j : Nat), (unfixL x j).length ≤ x.length
  | [], _ => Nat.le_refl _
  | d :: x, j => by
    have := unfixL_len x (j + 1)
    rw [unfixL]; split <;> simp <;> omega
theorem unfixL_row : ∀ (x : List UInt8) (j : Nat), rowB x = true → rowB (unfixL x j) = true
  | [], _, _ => rfl
  | d :: x, j, h => by
    have h' : bit d = true ∧ rowB x = true := by simpa [rowB] using h
    have := unfixL_row x (j + 1) h'.2
    rw [unfixL]
    split
    · exact this
    · simp [rowB] at this ⊢
      exact ⟨h'.1, this⟩
set_option maxHeartbeats 4000000 in
set_option maxRecDepth 100000 in
theorem unfixed_any (s : ByteArray) (w : World) (hs : s.size ≤ 1000) :
    Calls Tryd.prog 68 #[.string s] w fun e w' => e = .returned (.string ⟨(unfixL s.data.toList 0).toArray⟩) ∧ Below w.heap.size w w' := by
  obtain ⟨i0, hi, hz0, hz1, hz2⟩ := info_parts info_u8
  have hll : s.data.toList.length = s.size := by simp
  have HLL := Hid.mk hll
  clear hll
  go_enter Tryd.func68, Tryd.ntmps68
  go_wp2_with fail
  go_loopw [3, 7] (fun r i wr => ∃ k : Nat, k ≤ s.size ∧ i = .int .i64 k ∧ wr.ownsRow w.heap.size 5 1 r (unfixL (s.data.toList.take k) 0).length (cellsOf (unfixL (s.data.toList.take k) 0)) ∧ Below w.heap.size w wr) (fun _ i _ => s.size - (intOf i).toNat)
  case atStart => exact ⟨0, Nat.zero_le _, rfl, World.ownsRow_nil _ _ _ _, Below.refl _ _⟩
  case round =>
    obtain ⟨k, hk, rfl, hown, hbel⟩ := hrel
    by_cases hlt : k < s.size
    · have hlt' : (k : Int) < (s.size : Int) := by omega
      obtain ⟨c, hcE⟩ : ∃ c, c = s[k] := ⟨_, rfl⟩
      have hgd : s.data.toList.getD k 0 = c := by rw [hcE, at_getD s k hlt]
      have hcv : s[k] = c := hcE.symm
      have hnx : unfixL (s.data.toList.take (k + 1)) 0 = unfixL (s.data.toList.take k) 0 ++ (if k % 5 = 0 then [] else [c]) := by
        rw [take_snocL _ _ (by rw [HLL.out]; exact hlt), unfixL_snoc, hgd, List.length_take, HLL.out, Nat.zero_add, Nat.min_eq_left hk]
      have hol := unfixL_len (s.data.toList.take k) 0
      rw [List.length_take, HLL.out] at hol
      generalize unfixL (s.data.toList.take k) 0 = o at *
      have hol2 : o.length ≤ 1000 := by omega
      have HNX := Hid.mk hnx
      clear hcE hgd hnx hol
      by_cases h5 : k % 5 = 0
      · have hm : (k : Int).tmod 5 = 0 := by rw [Int.tmod_eq_emod_of_nonneg (by omega)]; omega
        have HO := Hid.mk hown
        clear hown
        go_wp2_with fail
        go_roundw
        case rel => exact ⟨k + 1, by omega, by go_num, by rw [HNX.out, if_pos h5, List.append_nil]; exact HO.out, hbel⟩
        case measure => simp [intOf]; omega
      · have hm : ((k : Int).tmod 5 != 0) = true := by rw [Int.tmod_eq_emod_of_nonneg (by omega)]; simp; omega
        have hm2 : ((k : Int).tmod 5 == 0) = false := by rw [Int.tmod_eq_emod_of_nonneg (by omega)]; rw [beq_eq_false_iff_ne]; omega
        have hm3 : ¬ (k : Int).tmod 5 = 0 := by simpa using hm
        have hsz := hbel.size
        go_wp2_with (at_builtin; refine wpList_append_own _ rfl (.tmp 13) (.tmp 17) 31 rfl w.heap.size 5 i0 (.int .u8 0) 1 1 Tryd.underlying31 hi hz0 hz1 hz2 rfl (by decide) _ _ _ rfl (hown.alloc _) ⟨wr.heap.size, 0, none⟩ 1 1 [Value.int .u8 c.toNat] rfl rfl (by intro q u hq; match q, hq with | 0, hq => (simp at hq; subst hq; simp [Addr.add])) (by intro u hu; simp at hu; subst hu; rfl) (by unfold maxLen; omega) (by omega) (by simp; omega) ?_; intro v1 w3 hown1 hgrow1 _)
        have hbw3 : Below w.heap.size wr w3 := Below.grown ((Below.refl _ _).alloc hsz _) hgrow1 (by simp; omega) (fun q hq => (hown.lt q hq).1)
        have hbel3 := hbel.trans hbw3
        have hown1' : w3.ownsRow w.heap.size 5 1 v1 (o ++ [c]).length (cellsOf (o ++ [c])) := by
          rw [cellsOf_append, List.length_append]; exact hown1
        have HO := Hid.mk hown1'
        clear hown hown1 hown1' hgrow1 hbw3 hbel hsz
        go_wp2_with fail
        go_roundw
        case rel => exact ⟨k + 1, by omega, by go_num, by rw [HNX.out, if_neg h5]; exact HO.out, hbel3⟩
        case measure => simp [intOf]; omega
    · have e : k = s.size := by omega
      subst e
      rw [List.take_of_length_le (by rw [HLL.out]; exact Nat.le_refl _)] at hown
      have hcv := convert_own hown
      clear hown
      go_wp2_with fail
      go_ret
      exact ⟨rfl, hbel⟩
end Bw
end Go.Proofs.YtdhmjbnpdmneiacDoor

/- Contracts of Go's library that the kit proves once, laid at this program: no walk, one application each. -/
namespace Go.Proofs
open Go.Shelf
def Tryd.lays138_ren : Go.Shelf.Ren := ⟨fun | 138 => 70 | 195 => 74 | 218 => 75 | 143 => 76 | 219 => 83 | 217 => 92 | 225 => 93 | 224 => 94 | 267 => 95 | 266 => 103 | 314 => 104 | n => n, fun | 9 => 9 | 3 => 3 | 4 => 4 | 5 => 5 | 0 => 0 | 46 => 85 | 146 => 119 | 51 => 118 | n => n, fun | 1 => 2 | n => n⟩
theorem Tryd.lays138 : Go.Proofs.Lays.n138 Tryd.prog Tryd.lays138_ren := {
  mixed := by kernel_rfl
  f138 := Tryd.func70.trans (congrArg some (by kernel_rfl))
  f143 := Tryd.func76.trans (congrArg some (by kernel_rfl))
  f195 := Tryd.func74.trans (congrArg some (by kernel_rfl))
  f217 := Tryd.func92.trans (congrArg some (by kernel_rfl))
  f218 := Tryd.func75.trans (congrArg some (by kernel_rfl))
  f219 := Tryd.func83.trans (congrArg some (by kernel_rfl))
  f224 := Tryd.func94.trans (congrArg some (by kernel_rfl))
  f225 := Tryd.func93.trans (congrArg some (by kernel_rfl))
  f266 := Tryd.func103.trans (congrArg some (by kernel_rfl))
  f267 := Tryd.func95.trans (congrArg some (by kernel_rfl))
  f314 := Tryd.func104.trans (congrArg some (by kernel_rfl))
  t0 := Tryd.underlying0
  a0 := Tryd.isAgg0
  z0 := Tryd.sizeOf0
  v0 := Tryd.zeroValue0
  t3 := Tryd.underlying3
  a3 := Tryd.isAgg3
  z3 := Tryd.sizeOf3
  v3 := Tryd.zeroValue3
  t4 := Tryd.underlying4
  a4 := Tryd.isAgg4
  z4 := Tryd.sizeOf4
  v4 := Tryd.zeroValue4
  t5 := Tryd.underlying5
  a5 := Tryd.isAgg5
  z5 := Tryd.sizeOf5
  v5 := Tryd.zeroValue5
  t9 := Tryd.underlying9
  a9 := Tryd.isAgg9
  z9 := Tryd.sizeOf9
  v9 := Tryd.zeroValue9
  t46 := Tryd.underlying85
  a46 := Tryd.isAgg85
  z46 := Tryd.sizeOf85
  v46 := Tryd.zeroValue85
  t51 := Tryd.underlying118
  a51 := Tryd.isAgg118
  z51 := Tryd.sizeOf118
  v51 := Tryd.zeroValue118
  t146 := Tryd.underlying119
  a146 := Tryd.isAgg119
  z146 := Tryd.sizeOf119
  v146 := Tryd.zeroValue119
  g1 := by kernel_rfl }
open Go.RowKit Go.Lib in
theorem Tryd.strings_Count_one (s : ByteArray) (c : UInt8) (w : World) :
    Calls Tryd.prog 70 #[.string s, .string ⟨#[c]⟩] w fun e w' => e = .returned (.int .i64 (Lib.countByte s.data.toList c)) ∧ w' = w := Any.strings_Count_one Tryd.lays138 s c w
end Go.Proofs

/- What frame.countOf answers. -/
namespace Go.Proofs.YtdhmjbnpdmneiacDoor
open Go.ChangeShapes Go.WideShapes Go.ChangeAt Go.RowKit
namespace Bw
open Bm Cm

set_option maxHeartbeats 1000000 in
theorem count_0 (p : Nat) (w : World) (h : (p : Int).tmod 8 = 0) :
    Calls Tryd.prog 52 #[.int .i64 p] w fun e w' => e = .returned (.string ⟨(grayL 0).toArray⟩) ∧ Below w.heap.size w w' := by
  have hx : bits .xor .i64 0 0 = 0 := by decide
  have hr := fun W => row_ok 0 3 W (by omega) (by omega)
  have hl : (bitsHead 0 3 3).toArray = #[48, 48, 48] := by decide
  rw [hl] at hr
  have hcn := fun W => Tryd.strings_Count_one ⟨#[48, 48, 48]⟩ 49 W
  have hc2 : Lib.countByte (ByteArray.mk #[48, 48, 48]).data.toList 49 = 0 := by decide
  rw [hc2] at hcn
  have HR := Hid.mk hr
  have HC := Hid.mk hcn
  clear hr hcn hc2 hl
  go_enter Tryd.func52, Tryd.ntmps52
  go_wp2_with fail
  try rw [hx]
  refine (HR.out _).mono ?_
  rintro e w1 ⟨rfl, hb1⟩
  clear HR
  go_wp2_with fail
  refine (HC.out _).mono ?_
  rintro e w2 ⟨rfl, hw⟩
  subst hw
  go_wp2_with fail
  refine (frBit_any false _).mono ?_
  rintro e w3 ⟨rfl, hw⟩
  subst hw
  go_wp2_with fail
  go_ret
  exact ⟨rfl, hb1⟩
set_option maxHeartbeats 1000000 in
theorem count_1 (p : Nat) (w : World) (h : (p : Int).tmod 8 = 1) :
    Calls Tryd.prog 52 #[.int .i64 p] w fun e w' => e = .returned (.string ⟨(grayL 1).toArray⟩) ∧ Below w.heap.size w w' := by
  have hx : bits .xor .i64 1 0 = 1 := by decide
  have hr := fun W => row_ok 1 3 W (by omega) (by omega)
  have hl : (bitsHead 1 3 3).toArray = #[48, 48, 49] := by decide
  rw [hl] at hr
  have hcn := fun W => Tryd.strings_Count_one ⟨#[48, 48, 49]⟩ 49 W
  have hc2 : Lib.countByte (ByteArray.mk #[48, 48, 49]).data.toList 49 = 1 := by decide
  rw [hc2] at hcn
  have HR := Hid.mk hr
  have HC := Hid.mk hcn
  clear hr hcn hc2 hl
  go_enter Tryd.func52, Tryd.ntmps52
  go_wp2_with fail
  try rw [hx]
  refine (HR.out _).mono ?_
  rintro e w1 ⟨rfl, hb1⟩
  clear HR
  go_wp2_with fail
  refine (HC.out _).mono ?_
  rintro e w2 ⟨rfl, hw⟩
  subst hw
  go_wp2_with fail
  refine (frBit_any true _).mono ?_
  rintro e w3 ⟨rfl, hw⟩
  subst hw
  go_wp2_with fail
  go_ret
  exact ⟨rfl, hb1⟩
set_option maxHeartbeats 1000000 in
theorem count_2 (p : Nat) (w : World) (h : (p : Int).tmod 8 = 2) :
    Calls Tryd.prog 52 #[.int .i64 p] w fun e w' => e = .returned (.string ⟨(grayL 2).toArray⟩) ∧ Below w.heap.size w w' := by
  have hx : bits .xor .i64 2 1 = 3 := by decide
  have hr := fun W => row_ok 3 3 W (by omega) (by omega)
  have hl : (bitsHead 3 3 3).toArray = #[48, 49, 49] := by decide
  rw [hl] at hr
  have hcn := fun W => Tryd.strings_Count_one ⟨#[48, 49, 49]⟩ 49 W
  have hc2 : Lib.countByte (ByteArray.mk #[48, 49, 49]).data.toList 49 = 2 := by decide
  rw [hc2] at hcn
  have HR := Hid.mk hr
  have HC := Hid.mk hcn
  clear hr hcn hc2 hl
  go_enter Tryd.func52, Tryd.ntmps52
  go_wp2_with fail
  try rw [hx]
  refine (HR.out _).mono ?_
  rintro e w1 ⟨rfl, hb1⟩
  clear HR
  go_wp2_with fail
  refine (HC.out _).mono ?_
  rintro e w2 ⟨rfl, hw⟩
  subst hw
  go_wp2_with fail
  refine (frBit_any false _).mono ?_
  rintro e w3 ⟨rfl, hw⟩
  subst hw
  go_wp2_with fail
  go_ret
  exact ⟨rfl, hb1⟩
set_option maxHeartbeats 1000000 in
theorem count_3 (p : Nat) (w : World) (h : (p : Int).tmod 8 = 3) :
    Calls Tryd.prog 52 #[.int .i64 p] w fun e w' => e = .returned (.string ⟨(grayL 3).toArray⟩) ∧ Below w.heap.size w w' := by
  have hx : bits .xor .i64 3 1 = 2 := by decide
  have hr := fun W => row_ok 2 3 W (by omega) (by omega)
  have hl : (bitsHead 2 3 3).toArray = #[48, 49, 48] := by decide
  rw [hl] at hr
  have hcn := fun W => Tryd.strings_Count_one ⟨#[48, 49, 48]⟩ 49 W
  have hc2 : Lib.countByte (ByteArray.mk #[48, 49, 48]).data.toList 49 = 1 := by decide
  rw [hc2] at hcn
  have HR := Hid.mk hr
  have HC := Hid.mk hcn
  clear hr hcn hc2 hl
  go_enter Tryd.func52, Tryd.ntmps52
  go_wp2_with fail
  try rw [hx]
  refine (HR.out _).mono ?_
  rintro e w1 ⟨rfl, hb1⟩
  clear HR
  go_wp2_with fail
  refine (HC.out _).mono ?_
  rintro e w2 ⟨rfl, hw⟩
  subst hw
  go_wp2_with fail
  refine (frBit_any true _).mono ?_
  rintro e w3 ⟨rfl, hw⟩
  subst hw
  go_wp2_with fail
  go_ret
  exact ⟨rfl, hb1⟩
set_option maxHeartbeats 1000000 in
theorem count_4 (p : Nat) (w : World) (h : (p : Int).tmod 8 = 4) :
    Calls Tryd.prog 52 #[.int .i64 p] w fun e w' => e = .returned (.string ⟨(grayL 4).toArray⟩) ∧ Below w.heap.size w w' := by
  have hx : bits .xor .i64 4 2 = 6 := by decide
  have hr := fun W => row_ok 6 3 W (by omega) (by omega)
  have hl : (bitsHead 6 3 3).toArray = #[49, 49, 48] := by decide
  rw [hl] at hr
  have hcn := fun W => Tryd.strings_Count_one ⟨#[49, 49, 48]⟩ 49 W
  have hc2 : Lib.countByte (ByteArray.mk #[49, 49, 48]).data.toList 49 = 2 := by decide
  rw [hc2] at hcn
  have HR := Hid.mk hr
  have HC := Hid.mk hcn
  clear hr hcn hc2 hl
  go_enter Tryd.func52, Tryd.ntmps52
  go_wp2_with fail
  try rw [hx]
  refine (HR.out _).mono ?_
  rintro e w1 ⟨rfl, hb1⟩
  clear HR
  go_wp2_with fail
  refine (HC.out _).mono ?_
  rintro e w2 ⟨rfl, hw⟩
  subst hw
  go_wp2_with fail
  refine (frBit_any false _).mono ?_
  rintro e w3 ⟨rfl, hw⟩
  subst hw
  go_wp2_with fail
  go_ret
  exact ⟨rfl, hb1⟩
set_option maxHeartbeats 1000000 in
theorem count_5 (p : Nat) (w : World) (h : (p : Int).tmod 8 = 5) :
    Calls Tryd.prog 52 #[.int .i64 p] w fun e w' => e = .returned (.string ⟨(grayL 5).toArray⟩) ∧ Below w.heap.size w w' := by
  have hx : bits .xor .i64 5 2 = 7 := by decide
  have hr := fun W => row_ok 7 3 W (by omega) (by omega)
  have hl : (bitsHead 7 3 3).toArray = #[49, 49, 49] := by decide
  rw [hl] at hr
  have hcn := fun W => Tryd.strings_Count_one ⟨#[49, 49, 49]⟩ 49 W
  have hc2 : Lib.countByte (ByteArray.mk #[49, 49, 49]).data.toList 49 = 3 := by decide
  rw [hc2] at hcn
  have HR := Hid.mk hr
  have HC := Hid.mk hcn
  clear hr hcn hc2 hl
  go_enter Tryd.func52, Tryd.ntmps52
  go_wp2_with fail
  try rw [hx]
  refine (HR.out _).mono ?_
  rintro e w1 ⟨rfl, hb1⟩
  clear HR
  go_wp2_with fail
  refine (HC.out _).mono ?_
  rintro e w2 ⟨rfl, hw⟩
  subst hw
  go_wp2_with fail
  refine (frBit_any true _).mono ?_
  rintro e w3 ⟨rfl, hw⟩
  subst hw
  go_wp2_with fail
  go_ret
  exact ⟨rfl, hb1⟩
set_option maxHeartbeats 1000000 in
theorem count_6 (p : Nat) (w : World) (h : (p : Int).tmod 8 = 6) :
    Calls Tryd.prog 52 #[.int .i64 p] w fun e w' => e = .returned (.string ⟨(grayL 6).toArray⟩) ∧ Below w.heap.size w w' := by
  have hx : bits .xor .i64 6 3 = 5 := by decide
  have hr := fun W => row_ok 5 3 W (by omega) (by omega)
  have hl : (bitsHead 5 3 3).toArray = #[49, 48, 49] := by decide
  rw [hl] at hr
  have hcn := fun W => Tryd.strings_Count_one ⟨#[49, 48, 49]⟩ 49 W
  have hc2 : Lib.countByte (ByteArray.mk #[49, 48, 49]).data.toList 49 = 2 := by decide
  rw [hc2] at hcn
  have HR := Hid.mk hr
  have HC := Hid.mk hcn
  clear hr hcn hc2 hl
  go_enter Tryd.func52, Tryd.ntmps52
  go_wp2_with fail
  try rw [hx]
  refine (HR.out _).mono ?_
  rintro e w1 ⟨rfl, hb1⟩
  clear HR
  go_wp2_with fail
  refine (HC.out _).mono ?_
  rintro e w2 ⟨rfl, hw⟩
  subst hw
  go_wp2_with fail
  refine (frBit_any false _).mono ?_
  rintro e w3 ⟨rfl, hw⟩
  subst hw
  go_wp2_with fail
  go_ret
  exact ⟨rfl, hb1⟩
set_option maxHeartbeats 1000000 in
theorem count_7 (p : Nat) (w : World) (h : (p : Int).tmod 8 = 7) :
    Calls Tryd.prog 52 #[.int .i64 p] w fun e w' => e = .returned (.string ⟨(grayL 7).toArray⟩) ∧ Below w.heap.size w w' := by
  have hx : bits .xor .i64 7 3 = 4 := by decide
  have hr := fun W => row_ok 4 3 W (by omega) (by omega)
  have hl : (bitsHead 4 3 3).toArray = #[49, 48, 48] := by decide
  rw [hl] at hr
  have hcn := fun W => Tryd.strings_Count_one ⟨#[49, 48, 48]⟩ 49 W
  have hc2 : Lib.countByte (ByteArray.mk #[49, 48, 48]).data.toList 49 = 1 := by decide
  rw [hc2] at hcn
  have HR := Hid.mk hr
  have HC := Hid.mk hcn
  clear hr hcn hc2 hl
  go_enter Tryd.func52, Tryd.ntmps52
  go_wp2_with fail
  try rw [hx]
  refine (HR.out _).mono ?_
  rintro e w1 ⟨rfl, hb1⟩
  clear HR
  go_wp2_with fail
  refine (HC.out _).mono ?_
  rintro e w2 ⟨rfl, hw⟩
  subst hw
  go_wp2_with fail
  refine (frBit_any true _).mono ?_
  rintro e w3 ⟨rfl, hw⟩
  subst hw
  go_wp2_with fail
  go_ret
  exact ⟨rfl, hb1⟩
theorem countOf_any (p : Nat) (w : World) :
    Calls Tryd.prog 52 #[.int .i64 p] w fun e w' => e = .returned (.string ⟨(grayL (p % 8)).toArray⟩) ∧ Below w.heap.size w w' := by
  have hq : (p : Int).tmod 8 = ((p % 8 : Nat) : Int) := by rw [Int.tmod_eq_emod_of_nonneg (by omega)]; omega
  have hlt : p % 8 < 8 := Nat.mod_lt _ (by omega)
  generalize p % 8 = q at *
  match q, hlt with
  | 0, _ => exact count_0 p w hq
  | 1, _ => exact count_1 p w hq
  | 2, _ => exact count_2 p w hq
  | 3, _ => exact count_3 p w hq
  | 4, _ => exact count_4 p w hq
  | 5, _ => exact count_5 p w hq
  | 6, _ => exact count_6 p w hq
  | 7, _ => exact count_7 p w hq
  | n + 8, h => exact absurd h (by omega)
end Bw
end Go.Proofs.YtdhmjbnpdmneiacDoor

/- What stuff.Fixed answers of any text and any byte: a bit ahead of each fourth, and else which error. -/
namespace Go.Proofs.YtdhmjbnpdmneiacDoor
open Go.ChangeShapes Go.WideShapes Go.ChangeAt Go.RowKit
namespace Bw
open Bm

set_option maxHeartbeats 1000000 in
theorem fixed_bad (s : ByteArray) (a : Int) (w : World) (hs : s.size ≤ maxLen) (hc : checkE s.data.toList ≠ 0) :
    Calls Tryd.prog 53 #[.string s, .int .u8 a] w fun e w' => e = .returned (.tuple #[.string ⟨#[]⟩, .int .i64 (checkE s.data.toList)]) ∧ Below w.heap.size w w' := by
  have HS := Hid.mk hs
  have hc' : (checkE s.data.toList == 0) = false := by simpa using hc
  clear hs
  go_enter Tryd.func53, Tryd.ntmps53
  go_wp2_with fail
  refine (check_any s w HS.out).mono ?_
  rintro e w1 ⟨rfl, hb1⟩
  go_wp2_with fail
  go_ret2
  exact ⟨rfl, hb1⟩

set_option maxHeartbeats 1000000 in
theorem fixed_range (s : ByteArray) (a : Int) (w : World) (hc : checkE s.data.toList = 0) (h0 : a ≠ 48) (h1 : a ≠ 49) :
    Calls Tryd.prog 53 #[.string s, .int .u8 a] w fun e w' => e = .returned (.tuple #[.string ⟨#[]⟩, .int .i64 3]) ∧ Below w.heap.size w w' := by
  obtain ⟨h1000, hrow⟩ := small_of_check hc
  have hck := fun W => check_any s W (by unfold maxLen; omega)
  rw [hc] at hck
  have h0' : (a != 48) = true := by simpa using h0
  have h1' : (a != 49) = true := by simpa using h1
  clear hc hrow h0 h1
  go_enter Tryd.func53, Tryd.ntmps53
  go_wp2_with fail
  refine (hck w).mono ?_
  rintro e w1 ⟨rfl, hb1⟩
  clear hck
  go_wp2_with fail
  go_ret2
  exact ⟨rfl, hb1⟩

theorem bit_bools {c : UInt8} (h : bit c = true) : ((c.toNat : Int) != 48 && (c.toNat : Int) != 49) = false := by
  rcases (bit_iff c).1 h with h | h <;> rw [h] <;> rfl

set_option maxHeartbeats 8000000 in
theorem fixed_ok (s : ByteArray) (a : UInt8) (w : World) (hc : checkE s.data.toList = 0) (ha : bit a = true) :
    Calls Tryd.prog 53 #[.string s, .int .u8 a.toNat] w fun e w' => e = .returned (.tuple #[.string ⟨(fixR s.data.toList a s.size).toArray⟩, .int .i64 0]) ∧ Below w.heap.size w w' := by
  obtain ⟨i0, hi, hz0, hz1, hz2⟩ := info_parts info_u8
  obtain ⟨h1000, hrow⟩ := small_of_check hc
  have hck := fun W => check_any s W (by unfold maxLen; omega)
  rw [hc] at hck
  have HR := Hid.mk hrow
  have HA := Hid.mk ha
  have hll : s.data.toList.length = s.size := by simp
  have HLL := Hid.mk hll
  have hab : ((a.toNat : Int) != 48) = false ∨ (((a.toNat : Int) != 48) = true ∧ ((a.toNat : Int) != 49) = false) := by
    rcases (bit_iff a).1 ha with h | h
    · left; rw [h]; rfl
    · right; rw [h]; exact ⟨rfl, rfl⟩
  clear hc hrow ha hll
  go_enter Tryd.func53, Tryd.ntmps53
  go_wp2_with fail
  refine (hck w).mono ?_
  rintro e w1 ⟨rfl, hb1⟩
  clear hck
  have hw1 := hb1.size
  rcases hab with hab | ⟨hab, hab2⟩
  all_goals focus
    go_wp2_with fail
    go_loopw [1, 7, 22] (fun av r i wr => ∃ k : Nat, k ≤ s.size ∧ i = .int .i64 k ∧ av = .int .u8 (fixP s.data.toList a k).toNat ∧ wr.ownsRow w.heap.size 5 1 r (fixR s.data.toList a k).length (cellsOf (fixR s.data.toList a k)) ∧ Below w.heap.size w wr) (fun _ _ i _ => s.size - (intOf i).toNat)
    case atStart => exact ⟨0, Nat.zero_le _, rfl, rfl, World.ownsRow_nil _ _ _ _, hb1⟩
    case round =>
      obtain ⟨k, hk, rfl, rfl, hown, hbel⟩ := hrel
      obtain ⟨o, ho⟩ : ∃ o, o = fixR s.data.toList a k := ⟨_, rfl⟩
      obtain ⟨p, hp⟩ : ∃ p, p = fixP s.data.toList a k := ⟨_, rfl⟩
      rw [← ho] at hown
      rw [← hp]
      have hsz := hbel.size
      have hol : o.length ≤ 2000 := by
        have := fixR_len s.data.toList a k
        rw [← ho] at this
        omega
      have hpb : bit p = true := by
        rw [hp]
        cases k with
        | zero => exact HA.out
        | succ k => rw [show fixP s.data.toList a (k + 1) = s.data.toList.getD k 0 from rfl, ← at_getD s k (by omega)]; exact rowB_at HR.out k (by omega)
      have HO := Hid.mk ho
      have HP := Hid.mk hp
      have HPB := Hid.mk hpb
      clear ho hp hpb
      by_cases hlt : k < s.size
      · have hlt' : (k : Int) < (s.size : Int) := by omega
        obtain ⟨c, hcE⟩ : ∃ c, c = s[k] := ⟨_, rfl⟩
        have hgd : s.data.toList.getD k 0 = c := by rw [hcE, at_getD s k hlt]
        have hP2 : fixP s.data.toList a (k + 1) = c := hgd
        have HP2 := Hid.mk hP2
        have HGD := Hid.mk hgd
        have hcv : s[k] = c := hcE.symm
        clear hcE hgd hP2
        by_cases h4 : k % 4 = 0
        · have h4' : ((k : Int) % 4 == 0) = true := by simp; omega
          have hnext : fixR s.data.toList a (k + 1) = o ++ [otb p] ++ [c] := by rw [fixR, if_pos h4, ← HO.out, ← HP.out, HGD.out]
          have HN := Hid.mk hnext
          clear hnext h4
          go_wp2_with fail
          refine (otherS_any p _ HPB.out).mono ?_
          rintro e w2 ⟨rfl, hw2⟩
          subst hw2
          have hol2 : (o ++ [otb p]).length ≤ 2001 := by rw [List.length_append]; simp; omega
          go_wp2_with (first
            | (at_builtin; refine wpList_append_own _ rfl (.tmp 28) (.tmp 31) 31 rfl w.heap.size 5 i0 (.int .u8 0) 1 1 Tryd.underlying31 hi hz0 hz1 hz2 rfl (by decide) _ _ _ rfl (hown.alloc _) ⟨w2.heap.size, 0, none⟩ 1 1 [Value.int .u8 (otb p).toNat] rfl rfl (by intro q u hq; match q, hq with | 0, hq => (simp at hq; subst hq; simp [Addr.add])) (by intro u hu; simp at hu; subst hu; rfl) (by unfold maxLen; omega) (by omega) (by simp; omega) ?_; intro v1 w3 hown1 hgrow1 _
               have hbel3 : Below w.heap.size w w3 := Below.grown (hbel.alloc hsz _) hgrow1 (by simp; omega) (fun q hq => (hown.lt q hq).1)
               have hown1' : w3.ownsRow w.heap.size 5 1 v1 (o ++ [otb p]).length (cellsOf (o ++ [otb p])) := by
                 rw [cellsOf_append, List.length_append]; exact hown1
               have hsz3 := hbel3.size
               clear hown hown1 hgrow1 hbel hsz)
            | (at_builtin; refine wpList_append_own _ rfl (.tmp 33) (.tmp 37) 31 rfl w.heap.size 5 i0 (.int .u8 0) 1 1 Tryd.underlying31 hi hz0 hz1 hz2 rfl (by decide) _ _ _ rfl (hown1'.alloc _) ⟨w3.heap.size, 0, none⟩ 1 1 [Value.int .u8 c.toNat] rfl rfl (by intro q u hq; match q, hq with | 0, hq => (simp at hq; subst hq; simp [Addr.add])) (by intro u hu; simp at hu; subst hu; rfl) (by unfold maxLen; omega) (by omega) (by simp; omega) ?_; intro v4 w4 hown4 hgrow4 _))
          have hbel4 : Below w.heap.size w w4 := Below.grown (hbel3.alloc hsz3 _) hgrow4 (by simp; omega) (fun q hq => (hown1'.lt q hq).1)
          have hown4' : w4.ownsRow w.heap.size 5 1 v4 (o ++ [otb p] ++ [c]).length (cellsOf (o ++ [otb p] ++ [c])) := by
            rw [cellsOf_append, show (o ++ [otb p] ++ [c]).length = (o ++ [otb p]).length + 1 from List.length_append ..]; exact hown4
          clear hown1' hown4 hgrow4 hbel3 hsz3
          go_wp2_with fail
          go_roundw
          case rel => exact ⟨k + 1, by omega, by go_num, by rw [HP2.out], by rw [HN.out]; exact hown4', hbel4⟩
          case measure => simp [intOf]; omega
        · have h4' : ((k : Int) % 4 == 0) = false := by rw [beq_eq_false_iff_ne]; omega
          have hnext : fixR s.data.toList a (k + 1) = o ++ [c] := by rw [fixR, if_neg h4, ← HO.out, HGD.out]
          have HN := Hid.mk hnext
          clear hnext h4
          go_wp2_with (at_builtin; refine wpList_append_own _ rfl (.tmp 33) (.tmp 37) 31 rfl w.heap.size 5 i0 (.int .u8 0) 1 1 Tryd.underlying31 hi hz0 hz1 hz2 rfl (by decide) _ _ _ rfl (hown.alloc _) ⟨wr.heap.size, 0, none⟩ 1 1 [Value.int .u8 c.toNat] rfl rfl (by intro q u hq; match q, hq with | 0, hq => (simp at hq; subst hq; simp [Addr.add])) (by intro u hu; simp at hu; subst hu; rfl) (by unfold maxLen; omega) (by omega) (by simp; omega) ?_; intro v4 w4 hown4 hgrow4 _)
          have hbel4 : Below w.heap.size w w4 := Below.grown (hbel.alloc hsz _) hgrow4 (by simp; omega) (fun q hq => (hown.lt q hq).1)
          have hown4' : w4.ownsRow w.heap.size 5 1 v4 (o ++ [c]).length (cellsOf (o ++ [c])) := by
            rw [cellsOf_append, List.length_append]; exact hown4
          clear hown hown4 hgrow4 hbel hsz
          go_wp2_with fail
          go_roundw
          case rel => exact ⟨k + 1, by omega, by go_num, by rw [HP2.out], by rw [HN.out]; exact hown4', hbel4⟩
          case measure => simp [intOf]; omega
      · have e : k = s.size := by omega
        subst e
        have hfin := HO.out
        subst hfin
        have hcv := convert_own hown
        clear hown
        go_wp2_with fail
        go_ret2
        exact ⟨rfl, hbel⟩
end Bw
end Go.Proofs.YtdhmjbnpdmneiacDoor

/- What frame.fixedPart answers: the count and the sum of a fast frame, with its fixed bits. -/
namespace Go.Proofs.YtdhmjbnpdmneiacDoor
open Go.ChangeShapes Go.WideShapes Go.ChangeAt Go.RowKit
namespace Bw
open Bm Cm

def fixedL (p : List UInt8) (q n : Nat) : List UInt8 := fixL (grayL (q % 8) ++ sumL (endK n) (p ++ grayL (q % 8))) (lastB p)
theorem fastL_fixed (h p : List UInt8) (n : Nat) : fastL h p n = fixedL p (p.length - h.length) n := rfl
theorem fix_lenE (l : List UInt8) (a : UInt8) : ∀ i, (fixR l a i).length = i + (i + 3) / 4
  | 0 => rfl
  | i + 1 => by
    rw [fixR]
    have h := fix_lenE l a i
    split
    · simp [h]; omega
    · simp [h]; omega
theorem fixedL_len (p : List UInt8) (q n : Nat) : (fixedL p q n).length = if 16 < n then 32 else 27 := by
  unfold fixedL fixL
  rw [fix_lenE, List.length_append, sumL_len, (gray_row _ (Nat.mod_lt _ (by omega))).2]
  unfold endK
  split
  · rw [show kS 2 = 21 from rfl]
  · rw [show kS 1 = 17 from rfl]

set_option maxHeartbeats 4000000 in
theorem fixedPart_any (p : ByteArray) (q n : Nat) (w : World) (hR : RulesAt w) (hp1 : 1 ≤ p.size) (hp : p.size ≤ 990) (hrow : rowB p.data.toList = true) (hn : n ≤ 1000) :
    Calls Tryd.prog 26 #[.string p, .int .i64 q, .int .i64 n] w fun e w' => e = .returned (.string ⟨(fixedL p.data.toList q n).toArray⟩) ∧ Below w.heap.size w w' := by
  have hpl : p.data.toList.length = p.size := by simp
  have hm8 : q % 8 < 8 := Nat.mod_lt _ (by omega)
  have hgr := gray_row (q % 8) hm8
  have hco := fun W => countOf_any q W
  unfold fixedL fixL lastB
  rw [hpl]
  have hcl := mk_list (grayL (q % 8))
  generalize grayL (q % 8) = gl at *
  generalize ByteArray.mk gl.toArray = C at *
  have hCs : C.size = 4 := by rw [ba_size hcl, hgr.2]
  obtain ⟨Y, hY⟩ : ∃ Y, Y = p ++ C := ⟨_, rfl⟩
  have hYl : Y.data.toList = p.data.toList ++ gl := by rw [hY, ba_cat, hcl]
  have hYs : Y.size = p.size + 4 := by rw [ba_size hYl, List.length_append, hgr.2, hpl]
  have hYr : rowB Y.data.toList = true := by rw [hYl, rowB_append, hrow, hgr.1]; rfl
  have hYc : checkE Y.data.toList = 0 := checkE_row hYr (by simp; omega)
  have hso := fun W hW => sum_ok (endK n) Y W hW hYc (endK_le n)
  rw [hYl] at hso
  have hsl := mk_list (sumL (endK n) (p.data.toList ++ gl))
  have hsn := sumL_len (endK n) (p.data.toList ++ gl)
  have hsr := sumL_row (endK n) (p.data.toList ++ gl)
  generalize sumL (endK n) (p.data.toList ++ gl) = sl at *
  generalize ByteArray.mk sl.toArray = S at *
  obtain ⟨Z, hZ⟩ : ∃ Z, Z = C ++ S := ⟨_, rfl⟩
  have hZl : Z.data.toList = gl ++ sl := by rw [hZ, ba_cat, hcl, hsl]
  have hk21 := (kinds_ok (endK n) (endK_le n)).2.1
  have hSs : S.size ≤ 21 := by rw [ba_size hsl, hsn]; exact hk21
  have hZs : Z.size = (gl ++ sl).length := ba_size hZl
  have hZr : rowB Z.data.toList = true := by rw [hZl, rowB_append, hgr.1, hsr]; rfl
  have hZc : checkE Z.data.toList = 0 := checkE_row hZr (by rw [hZl, List.length_append, hgr.2, hsn]; omega)
  have hpz : p.size - 1 < p.size := by clear hYs hCs hZs; omega
  have hpi : p[p.size - 1] = p.data.toList.getD (p.size - 1) 0 := at_getD p _ hpz
  have hlb : bit (p.data.toList.getD (p.size - 1) 0) = true := by rw [← hpi]; exact rowB_at hrow _ hpz
  have hfx := fun W => fixed_ok Z (p.data.toList.getD (p.size - 1) 0) W hZc hlb
  rw [hZl, hZs] at hfx
  have HSO := Hid.mk hso
  have HFX := Hid.mk hfx
  have HYE := Hid.mk hY
  have HZE := Hid.mk hZ
  have HR := Hid.mk hR
  have HCO := Hid.mk hco
  have hCm : C.size ≤ 4 := by omega
  have hpe : (1 : Int) ≤ (p.size : Int) := by omega
  have hek : (endK n : Int) = if (16 : Int) < (n : Int) then 2 else 1 := by unfold endK; split <;> split <;> omega
  have hZn := congrArg List.length hZl
  generalize p.data.toList.getD (p.size - 1) 0 = lb at *
  generalize ByteArray.mk (fixR (gl ++ sl) lb (gl ++ sl).length).toArray = FB at *
  clear hpl hgr hcl hCs hYl hYs hYr hYc hso hsl hsn hsr hZl hZs hZr hZc hfx hY hZ hrow hR hco hlb hZn hm8
  by_cases h16 : (16 : Int) < (n : Int)
  · rw [if_pos h16] at hek
    have hs2 := HSO.out
    simp only [hek, HYE.out] at hs2
    have HS2 := Hid.mk hs2
    have hf2 := HFX.out
    simp only [HZE.out] at hf2
    have HF2 := Hid.mk hf2
    clear hek hs2 hf2
    go_enter Tryd.func26, Tryd.ntmps26
    go_wp2_with fail
    refine (HCO.out _).mono ?_
    rintro e w1 ⟨rfl, hb1⟩
    go_wp2_with fail
    refine (HS2.out _ (HR.out.kept hb1)).mono ?_
    rintro e w2 ⟨rfl, hb2⟩
    have hbel2 := bl2 hb1 hb2
    clear hb1 hb2
    go_wp2_with fail
    refine (HF2.out _).mono ?_
    rintro e w3 ⟨rfl, hb3⟩
    have hbel3 := bl2 hbel2 hb3
    clear hbel2 hb3
    go_wp2_with fail
    go_ret
    exact ⟨rfl, hbel3⟩
  · rw [if_neg h16] at hek
    have hs2 := HSO.out
    simp only [hek, HYE.out] at hs2
    have HS2 := Hid.mk hs2
    have hf2 := HFX.out
    simp only [HZE.out] at hf2
    have HF2 := Hid.mk hf2
    clear hek hs2 hf2
    go_enter Tryd.func26, Tryd.ntmps26
    go_wp2_with fail
    refine (HCO.out _).mono ?_
    rintro e w1 ⟨rfl, hb1⟩
    go_wp2_with fail
    refine (HS2.out _ (HR.out.kept hb1)).mono ?_
    rintro e w2 ⟨rfl, hb2⟩
    have hbel2 := bl2 hb1 hb2
    clear hb1 hb2
    go_wp2_with fail
    refine (HF2.out _).mono ?_
    rintro e w3 ⟨rfl, hb3⟩
    have hbel3 := bl2 hbel2 hb3
    clear hbel2 hb3
    go_wp2_with fail
    go_ret
    exact ⟨rfl, hbel3⟩
end Bw
end Go.Proofs.YtdhmjbnpdmneiacDoor

/- What stays true while a frame is read: plain facts on lists; of no program. -/
namespace Go.Proofs.YtdhmjbnpdmneiacDoor
namespace Bw
open Bm Cm

theorem takeG_most (b : List UInt8) : ∀ m u o, 4 * u + (endR (b.take u)).2 ≤ 5 * o.length → (endR (b.take u)).2 ≤ 4 → (takeG b m u o).2.2 = 0 → 4 * (takeG b m u o).2.1 ≤ 5 * (takeG b m u o).1.length
  | 0, u, o, h1, _, _ => by rw [takeG_zero]; show 4 * u ≤ 5 * o.length; omega
  | m + 1, u, o, h1, h4, h => by
    by_cases hu : b.length ≤ u
    · rw [takeG_end b m u o hu] at h; cases h
    · have hul : u < b.length := by omega
      have hf := end_five b u hul h4
      by_cases h5 : (endR (b.take (u + 1))).2 = 5
      · by_cases hu2 : b.length ≤ u + 1
        · rw [takeG_end5 b m u o (by omega) h5] at h; cases h
        · by_cases h6 : b.getD (u + 1) 0 = b.getD u 0
          · rw [takeG_six b m u o (by omega) h5 h6] at h; cases h
          · rw [takeG_on5 b m u o (by omega) h5 h6] at h ⊢
            have he := end_on5 b u (by omega) h6
            have hn := end_next b u hul
            have hp := addR_pos (endR (b.take u)) (b.getD u 0)
            rw [← hn] at hp
            exact takeG_most b m (u + 2) _ (by rw [he]; simp; omega) (by rw [he]; simp) h
      · rw [takeG_on b m u o hul h5] at h ⊢
        have hn := end_next b u hul
        have hp := addR_pos (endR (b.take u)) (b.getD u 0)
        rw [← hn] at hp
        exact takeG_most b m (u + 1) _ (by simp; omega) (by omega) h
/-- few bits were put in -/
def Mst (S : RS) : Prop := 4 * S.u ≤ 5 * S.o.length
theorem Mst.start : Mst ⟨0, 0, []⟩ := Nat.le_refl _
theorem Mst.fail {S : RS} (h : Mst S) (e : Int) : Mst (failP S e) := by unfold failP; split <;> exact h
theorem Mst.take {b : List UInt8} {S : RS} (h : Mst S) (n : Nat) : Mst (takeP b S n).2 := by
  unfold takeP
  split
  · split
    · rename_i h0
      exact takeG_most b (S.o.length + n) 0 [] (by simp [endR]) (by simp [endR]) h0
    · exact h
  · exact h
theorem Mst.wstep {b : List UInt8} {S : RS} (h : Mst S) (c : UInt8) : Mst (Bw.wstep b S c) := by
  unfold Bw.wstep; split
  · exact h.take 1
  · exact (h.take 1).fail 4
theorem Mst.want {b : List UInt8} : ∀ (l : List UInt8) {S : RS}, Mst S → Mst (wantP b S l)
  | [], _, h => h
  | c :: l, _, h => Mst.want l (h.wstep c)
/-- where nothing is wrong, something was read -/
def Fed (S : RS) : Prop := S.fl = 0 → 1 ≤ S.o.length
theorem Fed.fail {S : RS} (h : Fed S) (e : Int) (he : e ≠ 0) : Fed (failP S e) := by
  unfold failP; split
  · intro h0; exact absurd h0 he
  · exact h
theorem takeP_o {b : List UInt8} {S : RS} {n : Nat} (h : (takeP b S n).2.fl = 0) : S.fl = 0 ∧ (takeP b S n).2.o.length = S.o.length + n := by
  unfold takeP at h ⊢
  split at h
  · rename_i h0
    rw [if_pos h0]
    refine ⟨h0, ?_⟩
    split at h
    · rename_i h1
      rw [if_pos h1]
      exact takeG_len b _ h1
    · rename_i h1
      exact absurd h h1
  · rename_i h0
    exact absurd h h0
theorem Fed.take {b : List UInt8} {S : RS} (h : Fed S) (n : Nat) : Fed (takeP b S n).2 := by
  intro h0
  obtain ⟨h1, h2⟩ := takeP_o h0
  have := h h1
  omega
theorem Fed.take1 (b : List UInt8) (S : RS) (n : Nat) (hn : 1 ≤ n) : Fed (takeP b S n).2 := by
  intro h0
  obtain ⟨h1, h2⟩ := takeP_o h0
  omega
theorem Fed.wstep (b : List UInt8) (S : RS) (c : UInt8) : Fed (Bw.wstep b S c) := by
  unfold Bw.wstep; split
  · exact Fed.take1 b S 1 (Nat.le_refl _)
  · exact (Fed.take1 b S 1 (Nat.le_refl _)).fail 4 (by decide)
theorem Fed.want {b : List UInt8} : ∀ (l : List UInt8) {S : RS}, Fed S → Fed (wantP b S l)
  | [], _, h => h
  | c :: l, S, _ => Fed.want l (Fed.wstep b S c)

theorem name_inv {b : List UInt8} (hb : rowB b = true) {S : RS} {n : Nat} (h : Inv b S n) (hm : Mst S) : Inv b (nameP b S).S (n + 33) ∧ Mst (nameP b S).S ∧ Fed (nameP b S).S := by
  have i1 : Inv b (nm1 b S) (n + 1) := Inv.want hb [48] h
  have i2 : Inv b (nmN b S).2 (n + 1 + 11) := i1.num hb 11
  have i3 : Inv b (nmF b S).2 (n + 1 + 11 + 1) := i2.take hb 1
  have i4 : Inv b (nmL b S).2 (n + 1 + 11 + 1 + 1) := i3.take hb 1
  have i5 : Inv b (nm5 b S) (n + 1 + 11 + 1 + 1) := by unfold nm5; split; exact i4; exact i4.fail 4
  have i6 : Inv b (nmM b S).2 (n + 1 + 11 + 1 + 1 + 18) := i5.num hb 18
  have i7 : Inv b (nmR b S).2 (n + 1 + 11 + 1 + 1 + 18 + 1) := i6.take hb 1
  have m1 : Mst (nm1 b S) := Mst.want [48] hm
  have m2 : Mst (nmN b S).2 := m1.take 11
  have m3 : Mst (nmF b S).2 := m2.take 1
  have m4 : Mst (nmL b S).2 := m3.take 1
  have m5 : Mst (nm5 b S) := by unfold nm5; split; exact m4; exact m4.fail 4
  have m6 : Mst (nmM b S).2 := m5.take 18
  have m7 : Mst (nmR b S).2 := m6.take 1
  have f4 : Fed (nmL b S).2 := Fed.take1 b _ 1 (Nat.le_refl _)
  have f7 : Fed (nmR b S).2 := Fed.take1 b _ 1 (Nat.le_refl _)
  unfold nameP
  split
  · exact ⟨i7, m7, f7⟩
  · exact ⟨i4.up (by omega), m4, f4⟩
theorem form_inv {b : List UInt8} (hb : rowB b = true) {S : RS} {n : Nat} (h : Inv b S n) (hm : Mst S) (lo re : Bool) : Inv b (formP b S lo re).1 (n + 4) ∧ Mst (formP b S lo re).1 ∧ Fed (formP b S lo re).1 := by
  have i1 : Inv b (takeP b S 1).2 (n + 1) := h.take hb 1
  have m1 : Mst (takeP b S 1).2 := hm.take 1
  have f1 : Fed (takeP b S 1).2 := Fed.take1 b S 1 (Nat.le_refl _)
  unfold formP
  split
  · cases re
    · exact ⟨Inv.want hb [48, 49, 48] i1, Mst.want _ m1, Fed.want _ f1⟩
    · exact ⟨(i1.fail 4).up (by omega), m1.fail 4, f1.fail 4 (by decide)⟩
  · cases lo
    · exact ⟨i1.up (by omega), m1, f1⟩
    · exact ⟨(Inv.want hb [48] i1).up (by simp), Mst.want _ m1, Fed.want _ f1⟩
theorem dtN_le (b : List UInt8) (hb : rowB b = true) (S : RS) : dtN b S ≤ 64 := by
  have h := numP_lt b hb S 4
  have : ∀ m : Fin 16, sizesL.getD m.val 0 ≤ 64 := by decide +kernel
  exact this ⟨(numP b S 4).1, h⟩
theorem data_inv {b : List UInt8} (hb : rowB b = true) {S : RS} {n : Nat} (h : Inv b S n) (hm : Mst S) (fa re : Bool) : Inv b (dataP b S fa re).S (n + 516) ∧ Mst (dataP b S fa re).S ∧ Fed (dataP b S fa re).S := by
  have i1 : Inv b (numP b S 4).2 (n + 4) := h.num hb 4
  have m1 : Mst (numP b S 4).2 := hm.take 4
  have f1 : Fed (numP b S 4).2 := Fed.take1 b S 4 (by omega)
  have i2 : Inv b (dt2 b S fa) (n + 4) := by unfold dt2; split; exact i1.fail 4; exact i1
  have m2 : Mst (dt2 b S fa) := by unfold dt2; split; exact m1.fail 4; exact m1
  have f2 : Fed (dt2 b S fa) := by unfold dt2; split; exact f1.fail 4 (by decide); exact f1
  have hd := dtN_le b hb S
  unfold dataP
  cases re
  · exact ⟨(i2.take hb (8 * dtN b S)).up (by omega), m2.take _, f2.take _⟩
  · exact ⟨i2.up (by omega), m2, f2⟩
theorem data_len (b : List UInt8) (hb : rowB b = true) (S : RS) (fa re : Bool) : (dataP b S fa re).dt.length ≤ 64 := by
  unfold dataP
  cases re
  · show (bytesL _).length ≤ 64
    have hd := dtN_le b hb S
    unfold bytesL
    rw [List.length_map, List.length_range]
    rcases takeP_len b (dt2 b S fa) (8 * dtN b S) with h | h
    · rw [h]; omega
    · rw [h]; simp
  · exact Nat.zero_le _
end Bw
end Go.Proofs.YtdhmjbnpdmneiacDoor

/- What the reader's method readFixed does. -/
namespace Go.Proofs.YtdhmjbnpdmneiacDoor
open Go.ChangeShapes Go.WideShapes Go.ChangeAt Go.RowKit
namespace Bw
open Bm Cm Go.Sort

theorem RulesAt.regrown {w : World} (h : RulesAt w) (d : Nat) (os : Array Obj) : RulesAt (grow (redrawn w d) os) := h.kept (below_regrown w d os)
theorem cell_redrawn {w : World} {a : Addr} {v : Value} (h : w.cell? a = some v) (n : Nat) : (w.drewN n).cell? a = some v := h

set_option maxHeartbeats 8000000 in
theorem readFixed_any (g : Nat) (b : ByteArray) (S : RS) (F : Fd) (n : Nat) (dt : List UInt8) (w : World) (h : RdAt w g b S F) (hR : RulesAt w) (hg : 0 ≠ g) (hd : DataAt w g F.d dt) (hdl : dt.length ≤ 64) (hc : checkE b.data.toList = 0) (hi : Inv b.data.toList S n) (hn : n ≤ 600) (hm : Mst S) (hf : Fed S) :
    Calls Tryd.prog 38 #[.pointer (some ⟨g, 0, none⟩)] w fun e w' =>
      e = .returned (.tuple #[]) ∧ RdAt w' g b (fixedP b.data.toList S dt.length) F ∧ Tch [g] w w' := by
  by_cases h0 : S.fl = 0
  · obtain ⟨h1000, hrow⟩ := small_of_check hc
    have hbl : b.data.toList.length = b.size := by simp
    have hu1 : 1 ≤ S.u := by have := hf h0; have := hi.ou; omega
    have hub : S.u ≤ b.size := by have := hi.u; omega
    have hu9 : S.u ≤ 990 := by have h1 := hi.n; have h2 : 4 * S.u ≤ 5 * S.o.length := hm; omega
    have hou := hi.ou
    obtain ⟨a, len, cap, hdv, hby, -⟩ := hd
    have hlen : dt.length = len := hby.1
    have c9 := h.c9
    rw [hdv] at c9
    -- the row so far
    have hXl : (b.extract 0 S.u).data.toList = b.data.toList.take S.u := by
      have := extract_list b 0 S.u
      rw [Nat.zero_add] at this
      rw [this, List.drop_zero]
    generalize hXX : b.extract 0 S.u = X at *
    have HXX := Hid.mk hXX
    clear hXX
    have hXn : (b.data.toList.take S.u).length = S.u := by rw [List.length_take, hbl]; omega
    have hXs : X.size = S.u := by rw [ba_size hXl, hXn]
    have hXr : rowB X.data.toList = true := by rw [hXl]; exact rowB_take hrow _
    -- what is wanted
    have hfp := fun W hW => fixedPart_any X (S.u - S.o.length) len W hW (by omega) (by omega) hXr (by omega)
    have hfl : fastL S.o (b.data.toList.take S.u) dt.length = fixedL X.data.toList (S.u - S.o.length) len := by rw [fastL_fixed, hXn, hXl, hlen]
    have hfn := fixedL_len X.data.toList (S.u - S.o.length) len
    unfold fixedP
    rw [if_pos h0, hfl]
    have hWl := mk_list (fixedL X.data.toList (S.u - S.o.length) len)
    generalize fixedL X.data.toList (S.u - S.o.length) len = wl at *
    have hwn : wl.length ≤ 32 := by rw [hfn]; split <;> omega
    have hgot := fun W F hW => nextB_any g wl.length b S F W hW h1000 hub (by omega)
    have hGr := nextP_row b.data.toList hrow S wl.length
    have hGn := nextP_len b.data.toList S wl.length
    generalize nextP b.data.toList S wl.length = GG at *
    obtain ⟨gt, S1⟩ := GG
    simp only at hgot hGr hGn ⊢
    have hGl := mk_list gt
    generalize ByteArray.mk gt.toArray = G at *
    generalize ByteArray.mk wl.toArray = WW at *
    have hGs : G.size ≤ 32 := by rw [ba_size hGl]; omega
    have hWs : (WW.size : Int) = (wl.length : Int) := by rw [ba_size hWl]
    have hun := fun W => unfixed_any G W (by omega)
    rw [hGl] at hun
    have hUr := unfixL_row gt 0 hGr
    have hUn := unfixL_len gt 0
    have hUl := mk_list (unfixL gt 0)
    generalize unfixL gt 0 = ul at *
    generalize ByteArray.mk ul.toArray = U at *
    have hUs : U.size = ul.length := ba_size hUl
    have hpz : X.size - 1 < X.size := by omega
    have hpi : X[X.size - 1] = X.data.toList.getD (X.size - 1) 0 := at_getD X _ hpz
    have hlb : bit (X.data.toList.getD (X.size - 1) 0) = true := by rw [← hpi]; exact rowB_at hXr _ hpz
    have hlast : lastB (b.data.toList.take S.u) = X.data.toList.getD (X.size - 1) 0 := by unfold lastB; rw [hXn, hXl, hXs]
    rw [hlast]
    have hfx := fun W => fixed_ok U (X.data.toList.getD (X.size - 1) 0) W (checkE_row (by rw [hUl]; exact hUr) (by rw [hUl]; omega)) hlb
    rw [hUl, hUs] at hfx
    have hfix : fixL ul (X.data.toList.getD (X.size - 1) 0) = fixR ul (X.data.toList.getD (X.size - 1) 0) ul.length := rfl
    rw [hfix]
    generalize X.data.toList.getD (X.size - 1) 0 = lb at *
    have hAl := mk_list (fixR ul lb ul.length)
    generalize fixR ul lb ul.length = al at *
    generalize ByteArray.mk al.toArray = AG at *
    have ne1 := str_ne hGl hAl
    have eq1 := str_eq hGl hAl
    have ne2 := str_ne hGl hWl
    have eq2 := str_eq hGl hWl
    have hfail := fun W x hW => fail_any g b S1 F x W hW
    have hq : ((S.u - S.o.length : Nat) : Int) = (X.size : Int) - ((ByteArray.mk S.o.toArray).size : Int) := by have e := mk_size S.o; omega
    simp only [hq] at hfp
    have hOs := mk_size S.o
    have c0 := h.c0
    have c1 := h.c1
    have c2 := h.c2
    have c3 := h.c3
    rw [h0] at c2
    generalize ByteArray.mk S.o.toArray = O at *
    rw [← hWs] at hgot
    have hOX : (O.size : Int) ≤ (X.size : Int) := by omega
    have hX1 : (1 : Int) ≤ (X.size : Int) := by omega
    have hX2 : (X.size : Int) ≤ 990 := by omega
    have hO2 : (O.size : Int) ≤ 990 := by omega
    have hW2 : (WW.size : Int) ≤ 32 := by omega
    have hl2 : (len : Int) ≤ 64 := by omega
    have HFP := Hid.mk hfp
    have HGOT := Hid.mk hgot
    have HUN := Hid.mk hun
    have HFX := Hid.mk hfx
    have HFAIL := Hid.mk hfail
    have H := Hid.mk h
    have HR := Hid.mk hR
    have HG := Hid.mk hg
    have hui : (S.u : Int) ≤ (b.size : Int) := by omega
    have hu0 : (0 : Int) ≤ (S.u : Int) := by omega
    clear h hR hg hfp hgot hun hfx hfail hXl hXr hXn hfl hfn hWl hwn hGr hGn hGl hUr hUn hUl hlb hlast hfix hAl hq hby hdv hlen hdl hc hi hn hm hf hrow hbl hou hOs hWs hUs hXs
    by_cases h1 : gt = al
    · rw [if_pos h1]
      have q1 : (G.toList != AG.toList) = false := by rw [ne1, h1]; simp
      have q2 : (G.toList == AG.toList) = true := by rw [eq1, h1]; simp
      have q3 : G.toList = AG.toList := by simpa using q2
      by_cases h2 : gt = wl
      · rw [if_pos h2]
        have p1 : (G.toList != WW.toList) = false := by rw [ne2, h2]; simp
        have p2 : (G.toList == WW.toList) = true := by rw [eq2, h2]; simp
        have p3 : G.toList = WW.toList := by simpa using p2
        clear ne1 eq1 ne2 eq2 h1 h2 q1 q3 p1 p3
        go_enter Tryd.func38, Tryd.ntmps38
        go_wp2_with fail
        go_quiet (fail)
        rw [HXX.out]
        obtain ⟨w1, hw1⟩ : ∃ w1, w1 = w.drewN nq := ⟨_, rfl⟩
        have hB1 : Below w.heap.size w w1 := by rw [hw1]; exact ⟨rfl, rfl, rfl, Nat.le_refl _, fun _ _ => rfl⟩
        rw [← hw1]
        have r3 := fun d os => cell_regrown (cell_kept hB1 c3) d os
        have r9 := fun d os => cell_regrown (cell_kept hB1 c9) d os
        have H1 := Hid.mk (H.out.kept hB1)
        have HR1 := Hid.mk (HR.out.kept hB1)
        have T1 := Hid.mk (show Tch [g] w w1 from Tch.of hB1)
        clear hw1 hB1 H HR c0 c1 c2 c3 c9
        go_wp2_with fail
        refine wp_region_quiet_below (by kernel_rfl) (by kernel_rfl) ?_
        set_option maxRecDepth 100000 in
        repeat (go_big_quiet_step ((go_at_call 26; exact Calls.regrown_of (HFP.out _ (HR1.out.regrown _ _)))))
        refine wpQuiet_nil ?_
        intro _ hw'
        obtain ⟨⟨dq, osq⟩, hw''⟩ := hw'
        have hbq := below_regrown w1 dq osq
        rw [hw'']
        generalize grow (redrawn w1 dq) osq = w2 at *
        have H2 := Hid.mk (H1.out.kept hbq)
        have T2 := Hid.mk (T1.out.trans (Tch.of hbq))
        clear r3 r9 hw'' hbq H1 HR1 T1 HFP
        go_wp2_with fail
        refine (HGOT.out _ _ H2.out).mono ?_
        rintro e w3 ⟨rfl, h3, t3⟩
        have H3 := Hid.mk h3
        have T3 := Hid.mk (T2.out.trans t3)
        clear h3 t3 H2 T2 HGOT
        go_wp2_with fail
        refine wp_region_quiet_below (by kernel_rfl) (by kernel_rfl) ?_
        set_option maxRecDepth 100000 in
        repeat (go_big_quiet_step (first
          | (go_at_call 68; exact Calls.regrown_of (HUN.out _))
          | (go_at_call 53; exact Calls.regrown_of (HFX.out _))))
        refine wpQuiet_nil ?_
        intro _ hw'
        obtain ⟨⟨dq, osq⟩, hw''⟩ := hw'
        have hbq := below_regrown w3 dq osq
        rw [hw'']
        generalize grow (redrawn w3 dq) osq = w4 at *
        have H4 := Hid.mk (H3.out.kept hbq)
        have T4 := Hid.mk (T3.out.trans (Tch.of hbq))
        clear hw'' hbq H3 T3 HUN HFX
        go_wp2_with fail
        go_end0
        exact ⟨rfl, H4.out, T4.out⟩
      · rw [if_neg h2]
        have p1 : (G.toList != WW.toList) = true := by rw [ne2]; simp [h2]
        have p2 : (G.toList == WW.toList) = false := by rw [eq2]; simp [h2]
        have p3 : ¬ G.toList = WW.toList := by simpa using p2
        clear ne1 eq1 ne2 eq2 h1 h2 q1 q3 p1 p3
        go_enter Tryd.func38, Tryd.ntmps38
        go_wp2_with fail
        go_quiet (fail)
        rw [HXX.out]
        obtain ⟨w1, hw1⟩ : ∃ w1, w1 = w.drewN nq := ⟨_, rfl⟩
        have hB1 : Below w.heap.size w w1 := by rw [hw1]; exact ⟨rfl, rfl, rfl, Nat.le_refl _, fun _ _ => rfl⟩
        rw [← hw1]
        have r3 := fun d os => cell_regrown (cell_kept hB1 c3) d os
        have r9 := fun d os => cell_regrown (cell_kept hB1 c9) d os
        have H1 := Hid.mk (H.out.kept hB1)
        have HR1 := Hid.mk (HR.out.kept hB1)
        have T1 := Hid.mk (show Tch [g] w w1 from Tch.of hB1)
        clear hw1 hB1 H HR c0 c1 c2 c3 c9
        go_wp2_with fail
        refine wp_region_quiet_below (by kernel_rfl) (by kernel_rfl) ?_
        set_option maxRecDepth 100000 in
        repeat (go_big_quiet_step ((go_at_call 26; exact Calls.regrown_of (HFP.out _ (HR1.out.regrown _ _)))))
        refine wpQuiet_nil ?_
        intro _ hw'
        obtain ⟨⟨dq, osq⟩, hw''⟩ := hw'
        have hbq := below_regrown w1 dq osq
        rw [hw'']
        generalize grow (redrawn w1 dq) osq = w2 at *
        have H2 := Hid.mk (H1.out.kept hbq)
        have T2 := Hid.mk (T1.out.trans (Tch.of hbq))
        clear r3 r9 hw'' hbq H1 HR1 T1 HFP
        go_wp2_with fail
        refine (HGOT.out _ _ H2.out).mono ?_
        rintro e w3 ⟨rfl, h3, t3⟩
        have H3 := Hid.mk h3
        have T3 := Hid.mk (T2.out.trans t3)
        clear h3 t3 H2 T2 HGOT
        go_wp2_with fail
        refine wp_region_quiet_below (by kernel_rfl) (by kernel_rfl) ?_
        set_option maxRecDepth 100000 in
        repeat (go_big_quiet_step (first
          | (go_at_call 68; exact Calls.regrown_of (HUN.out _))
          | (go_at_call 53; exact Calls.regrown_of (HFX.out _))))
        refine wpQuiet_nil ?_
        intro _ hw'
        obtain ⟨⟨dq, osq⟩, hw''⟩ := hw'
        have hbq := below_regrown w3 dq osq
        rw [hw'']
        generalize grow (redrawn w3 dq) osq = w4 at *
        have H4 := Hid.mk (H3.out.kept hbq)
        have T4 := Hid.mk (T3.out.trans (Tch.of hbq))
        clear hw'' hbq H3 T3 HUN HFX
        go_wp2_with fail
        refine (HFAIL.out _ 6 H4.out).mono ?_
        rintro e w5 ⟨rfl, h5, t5⟩
        have H5 := Hid.mk h5
        clear h5
        go_wp2_with fail
        go_end0
        exact ⟨rfl, H5.out, T4.out.trans t5⟩
    · rw [if_neg h1]
      have q1 : (G.toList != AG.toList) = true := by rw [ne1]; simp [h1]
      have q2 : (G.toList == AG.toList) = false := by rw [eq1]; simp [h1]
      have q3 : ¬ G.toList = AG.toList := by simpa using q2
      clear ne1 eq1 ne2 eq2 h1 q1 q3
      go_enter Tryd.func38, Tryd.ntmps38
      go_wp2_with fail
      go_quiet (fail)
      rw [HXX.out]
      obtain ⟨w1, hw1⟩ : ∃ w1, w1 = w.drewN nq := ⟨_, rfl⟩
      have hB1 : Below w.heap.size w w1 := by rw [hw1]; exact ⟨rfl, rfl, rfl, Nat.le_refl _, fun _ _ => rfl⟩
      rw [← hw1]
      have r3 := fun d os => cell_regrown (cell_kept hB1 c3) d os
      have r9 := fun d os => cell_regrown (cell_kept hB1 c9) d os
      have H1 := Hid.mk (H.out.kept hB1)
      have HR1 := Hid.mk (HR.out.kept hB1)
      have T1 := Hid.mk (show Tch [g] w w1 from Tch.of hB1)
      clear hw1 hB1 H HR c0 c1 c2 c3 c9
      go_wp2_with fail
      refine wp_region_quiet_below (by kernel_rfl) (by kernel_rfl) ?_
      set_option maxRecDepth 100000 in
      repeat (go_big_quiet_step ((go_at_call 26; exact Calls.regrown_of (HFP.out _ (HR1.out.regrown _ _)))))
      refine wpQuiet_nil ?_
      intro _ hw'
      obtain ⟨⟨dq, osq⟩, hw''⟩ := hw'
      have hbq := below_regrown w1 dq osq
      rw [hw'']
      generalize grow (redrawn w1 dq) osq = w2 at *
      have H2 := Hid.mk (H1.out.kept hbq)
      have T2 := Hid.mk (T1.out.trans (Tch.of hbq))
      clear r3 r9 hw'' hbq H1 HR1 T1 HFP
      go_wp2_with fail
      refine (HGOT.out _ _ H2.out).mono ?_
      rintro e w3 ⟨rfl, h3, t3⟩
      have H3 := Hid.mk h3
      have T3 := Hid.mk (T2.out.trans t3)
      clear h3 t3 H2 T2 HGOT
      go_wp2_with fail
      refine wp_region_quiet_below (by kernel_rfl) (by kernel_rfl) ?_
      set_option maxRecDepth 100000 in
      repeat (go_big_quiet_step (first
        | (go_at_call 68; exact Calls.regrown_of (HUN.out _))
        | (go_at_call 53; exact Calls.regrown_of (HFX.out _))))
      refine wpQuiet_nil ?_
      intro _ hw'
      obtain ⟨⟨dq, osq⟩, hw''⟩ := hw'
      have hbq := below_regrown w3 dq osq
      rw [hw'']
      generalize grow (redrawn w3 dq) osq = w4 at *
      have H4 := Hid.mk (H3.out.kept hbq)
      have T4 := Hid.mk (T3.out.trans (Tch.of hbq))
      clear hw'' hbq H3 T3 HUN HFX
      go_wp2_with fail
      refine (HFAIL.out _ 5 H4.out).mono ?_
      rintro e w5 ⟨rfl, h5, t5⟩
      have H5 := Hid.mk h5
      clear h5
      go_wp2_with fail
      go_end0
      exact ⟨rfl, H5.out, T4.out.trans t5⟩
  · have hp : fixedP b.data.toList S dt.length = S := by unfold fixedP; rw [if_neg h0]
    rw [hp]
    have c2 := h.c2
    have hnb : (S.fl != 0) = true := by simpa using h0
    have H := Hid.mk h
    clear h hp hR hg hd hdl hc hi hn hm hf
    go_enter Tryd.func38, Tryd.ntmps38
    go_wp2_with fail
    (try simp only [Exit.inBlock, Exit.then]); refine bodyPost_ret (results_none rfl _ _ _) rfl ?_
    exact ⟨rfl, H.out, Tch.refl _ _⟩
end Bw
end Go.Proofs.YtdhmjbnpdmneiacDoor
