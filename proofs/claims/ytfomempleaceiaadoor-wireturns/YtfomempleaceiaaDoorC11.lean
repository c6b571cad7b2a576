/- What frame.fixedPart answers: the count and the sum of a fast frame, with its fixed bits. -/
import Derived.Test.YtfomempleaceiaaDoorC2
import Derived.Test.YtfomempleaceiaaDoorC9
import Derived.Test.YtfomempleaceiaaDoorC3
import Derived.Test.YtfomempleaceiaaDoorShelfCnt
import Derived.Test.YtfomempleaceiaaDoorC5
import Derived.Test.YtfomempleaceiaaDoorC7
namespace Go.Proofs.YtfomempleaceiaaDoor
open Go.ChangeShapes Go.WideShapes Go.ChangeAt Go.RowKit
namespace Bw
open Bm Cm

set_option maxHeartbeats 1000000 in
theorem count_0 (p : Nat) (w : World) (h : (p : Int).tmod 8 = 0) :
    Calls Tryd.prog 57 #[.int .i64 p] w fun e w' => e = .returned (.string ⟨(grayL 0).toArray⟩) ∧ Below w.heap.size w w' := by
  have hx : bits .xor .i64 0 0 = 0 := by decide
  have hr := fun W => row_ok 0 3 W (by omega) (by omega)
  have hl : (bitsHead 0 3 3).toArray = #[48, 48, 48] := by decide
  rw [hl] at hr
  have hcn := fun W => Tryd.strings_Count_one ⟨#[48, 48, 48]⟩ 49 W
  have hc2 : Lib.countByte (ByteArray.mk #[48, 48, 48]).data.toList 49 = 0 := by decide
  rw [hc2] at hcn
  have HR := Hid.mk hr
  have HC := Hid.mk hcn
  clear hr hcn hc2 hl
  go_enter Tryd.func57, Tryd.ntmps57
  go_wp2_with fail
  try rw [hx]
  refine (HR.out _).mono ?_
  rintro e w1 ⟨rfl, hb1⟩
  clear HR
  go_wp2_with fail
  refine (HC.out _).mono ?_
  rintro e w2 ⟨rfl, hw⟩
  subst hw
  go_wp2_with fail
  refine (frBit_any false _).mono ?_
  rintro e w3 ⟨rfl, hw⟩
  subst hw
  go_wp2_with fail
  go_ret
  exact ⟨rfl, hb1⟩
set_option maxHeartbeats 1000000 in
theorem count_1 (p : Nat) (w : World) (h : (p : Int).tmod 8 = 1) :
    Calls Tryd.prog 57 #[.int .i64 p] w fun e w' => e = .returned (.string ⟨(grayL 1).toArray⟩) ∧ Below w.heap.size w w' := by
  have hx : bits .xor .i64 1 0 = 1 := by decide
  have hr := fun W => row_ok 1 3 W (by omega) (by omega)
  have hl : (bitsHead 1 3 3).toArray = #[48, 48, 49] := by decide
  rw [hl] at hr
  have hcn := fun W => Tryd.strings_Count_one ⟨#[48, 48, 49]⟩ 49 W
  have hc2 : Lib.countByte (ByteArray.mk #[48, 48, 49]).data.toList 49 = 1 := by decide
  rw [hc2] at hcn
  have HR := Hid.mk hr
  have HC := Hid.mk hcn
  clear hr hcn hc2 hl
  go_enter Tryd.func57, Tryd.ntmps57
  go_wp2_with fail
  try rw [hx]
  refine (HR.out _).mono ?_
  rintro e w1 ⟨rfl, hb1⟩
  clear HR
  go_wp2_with fail
  refine (HC.out _).mono ?_
  rintro e w2 ⟨rfl, hw⟩
  subst hw
  go_wp2_with fail
  refine (frBit_any true _).mono ?_
  rintro e w3 ⟨rfl, hw⟩
  subst hw
  go_wp2_with fail
  go_ret
  exact ⟨rfl, hb1⟩
set_option maxHeartbeats 1000000 in
theorem count_2 (p : Nat) (w : World) (h : (p : Int).tmod 8 = 2) :
    Calls Tryd.prog 57 #[.int .i64 p] w fun e w' => e = .returned (.string ⟨(grayL 2).toArray⟩) ∧ Below w.heap.size w w' := by
  have hx : bits .xor .i64 2 1 = 3 := by decide
  have hr := fun W => row_ok 3 3 W (by omega) (by omega)
  have hl : (bitsHead 3 3 3).toArray = #[48, 49, 49] := by decide
  rw [hl] at hr
  have hcn := fun W => Tryd.strings_Count_one ⟨#[48, 49, 49]⟩ 49 W
  have hc2 : Lib.countByte (ByteArray.mk #[48, 49, 49]).data.toList 49 = 2 := by decide
  rw [hc2] at hcn
  have HR := Hid.mk hr
  have HC := Hid.mk hcn
  clear hr hcn hc2 hl
  go_enter Tryd.func57, Tryd.ntmps57
  go_wp2_with fail
  try rw [hx]
  refine (HR.out _).mono ?_
  rintro e w1 ⟨rfl, hb1⟩
  clear HR
  go_wp2_with fail
  refine (HC.out _).mono ?_
  rintro e w2 ⟨rfl, hw⟩
  subst hw
  go_wp2_with fail
  refine (frBit_any false _).mono ?_
  rintro e w3 ⟨rfl, hw⟩
  subst hw
  go_wp2_with fail
  go_ret
  exact ⟨rfl, hb1⟩
set_option maxHeartbeats 1000000 in
theorem count_3 (p : Nat) (w : World) (h : (p : Int).tmod 8 = 3) :
    Calls Tryd.prog 57 #[.int .i64 p] w fun e w' => e = .returned (.string ⟨(grayL 3).toArray⟩) ∧ Below w.heap.size w w' := by
  have hx : bits .xor .i64 3 1 = 2 := by decide
  have hr := fun W => row_ok 2 3 W (by omega) (by omega)
  have hl : (bitsHead 2 3 3).toArray = #[48, 49, 48] := by decide
  rw [hl] at hr
  have hcn := fun W => Tryd.strings_Count_one ⟨#[48, 49, 48]⟩ 49 W
  have hc2 : Lib.countByte (ByteArray.mk #[48, 49, 48]).data.toList 49 = 1 := by decide
  rw [hc2] at hcn
  have HR := Hid.mk hr
  have HC := Hid.mk hcn
  clear hr hcn hc2 hl
  go_enter Tryd.func57, Tryd.ntmps57
  go_wp2_with fail
  try rw [hx]
  refine (HR.out _).mono ?_
  rintro e w1 ⟨rfl, hb1⟩
  clear HR
  go_wp2_with fail
  refine (HC.out _).mono ?_
  rintro e w2 ⟨rfl, hw⟩
  subst hw
  go_wp2_with fail
  refine (frBit_any true _).mono ?_
  rintro e w3 ⟨rfl, hw⟩
  subst hw
  go_wp2_with fail
  go_ret
  exact ⟨rfl, hb1⟩
set_option maxHeartbeats 1000000 in
theorem count_4 (p : Nat) (w : World) (h : (p : Int).tmod 8 = 4) :
    Calls Tryd.prog 57 #[.int .i64 p] w fun e w' => e = .returned (.string ⟨(grayL 4).toArray⟩) ∧ Below w.heap.size w w' := by
  have hx : bits .xor .i64 4 2 = 6 := by decide
  have hr := fun W => row_ok 6 3 W (by omega) (by omega)
  have hl : (bitsHead 6 3 3).toArray = #[49, 49, 48] := by decide
  rw [hl] at hr
  have hcn := fun W => Tryd.strings_Count_one ⟨#[49, 49, 48]⟩ 49 W
  have hc2 : Lib.countByte (ByteArray.mk #[49, 49, 48]).data.toList 49 = 2 := by decide
  rw [hc2] at hcn
  have HR := Hid.mk hr
  have HC := Hid.mk hcn
  clear hr hcn hc2 hl
  go_enter Tryd.func57, Tryd.ntmps57
  go_wp2_with fail
  try rw [hx]
  refine (HR.out _).mono ?_
  rintro e w1 ⟨rfl, hb1⟩
  clear HR
  go_wp2_with fail
  refine (HC.out _).mono ?_
  rintro e w2 ⟨rfl, hw⟩
  subst hw
  go_wp2_with fail
  refine (frBit_any false _).mono ?_
  rintro e w3 ⟨rfl, hw⟩
  subst hw
  go_wp2_with fail
  go_ret
  exact ⟨rfl, hb1⟩
set_option maxHeartbeats 1000000 in
theorem count_5 (p : Nat) (w : World) (h : (p : Int).tmod 8 = 5) :
    Calls Tryd.prog 57 #[.int .i64 p] w fun e w' => e = .returned (.string ⟨(grayL 5).toArray⟩) ∧ Below w.heap.size w w' := by
  have hx : bits .xor .i64 5 2 = 7 := by decide
  have hr := fun W => row_ok 7 3 W (by omega) (by omega)
  have hl : (bitsHead 7 3 3).toArray = #[49, 49, 49] := by decide
  rw [hl] at hr
  have hcn := fun W => Tryd.strings_Count_one ⟨#[49, 49, 49]⟩ 49 W
  have hc2 : Lib.countByte (ByteArray.mk #[49, 49, 49]).data.toList 49 = 3 := by decide
  rw [hc2] at hcn
  have HR := Hid.mk hr
  have HC := Hid.mk hcn
  clear hr hcn hc2 hl
  go_enter Tryd.func57, Tryd.ntmps57
  go_wp2_with fail
  try rw [hx]
  refine (HR.out _).mono ?_
  rintro e w1 ⟨rfl, hb1⟩
  clear HR
  go_wp2_with fail
  refine (HC.out _).mono ?_
  rintro e w2 ⟨rfl, hw⟩
  subst hw
  go_wp2_with fail
  refine (frBit_any true _).mono ?_
  rintro e w3 ⟨rfl, hw⟩
  subst hw
  go_wp2_with fail
  go_ret
  exact ⟨rfl, hb1⟩
set_option maxHeartbeats 1000000 in
theorem count_6 (p : Nat) (w : World) (h : (p : Int).tmod 8 = 6) :
    Calls Tryd.prog 57 #[.int .i64 p] w fun e w' => e = .returned (.string ⟨(grayL 6).toArray⟩) ∧ Below w.heap.size w w' := by
  have hx : bits .xor .i64 6 3 = 5 := by decide
  have hr := fun W => row_ok 5 3 W (by omega) (by omega)
  have hl : (bitsHead 5 3 3).toArray = #[49, 48, 49] := by decide
  rw [hl] at hr
  have hcn := fun W => Tryd.strings_Count_one ⟨#[49, 48, 49]⟩ 49 W
  have hc2 : Lib.countByte (ByteArray.mk #[49, 48, 49]).data.toList 49 = 2 := by decide
  rw [hc2] at hcn
  have HR := Hid.mk hr
  have HC := Hid.mk hcn
  clear hr hcn hc2 hl
  go_enter Tryd.func57, Tryd.ntmps57
  go_wp2_with fail
  try rw [hx]
  refine (HR.out _).mono ?_
  rintro e w1 ⟨rfl, hb1⟩
  clear HR
  go_wp2_with fail
  refine (HC.out _).mono ?_
  rintro e w2 ⟨rfl, hw⟩
  subst hw
  go_wp2_with fail
  refine (frBit_any false _).mono ?_
  rintro e w3 ⟨rfl, hw⟩
  subst hw
  go_wp2_with fail
  go_ret
  exact ⟨rfl, hb1⟩
set_option maxHeartbeats 1000000 in
theorem count_7 (p : Nat) (w : World) (h : (p : Int).tmod 8 = 7) :
    Calls Tryd.prog 57 #[.int .i64 p] w fun e w' => e = .returned (.string ⟨(grayL 7).toArray⟩) ∧ Below w.heap.size w w' := by
  have hx : bits .xor .i64 7 3 = 4 := by decide
  have hr := fun W => row_ok 4 3 W (by omega) (by omega)
  have hl : (bitsHead 4 3 3).toArray = #[49, 48, 48] := by decide
  rw [hl] at hr
  have hcn := fun W => Tryd.strings_Count_one ⟨#[49, 48, 48]⟩ 49 W
  have hc2 : Lib.countByte (ByteArray.mk #[49, 48, 48]).data.toList 49 = 1 := by decide
  rw [hc2] at hcn
  have HR := Hid.mk hr
  have HC := Hid.mk hcn
  clear hr hcn hc2 hl
  go_enter Tryd.func57, Tryd.ntmps57
  go_wp2_with fail
  try rw [hx]
  refine (HR.out _).mono ?_
  rintro e w1 ⟨rfl, hb1⟩
  clear HR
  go_wp2_with fail
  refine (HC.out _).mono ?_
  rintro e w2 ⟨rfl, hw⟩
  subst hw
  go_wp2_with fail
  refine (frBit_any true _).mono ?_
  rintro e w3 ⟨rfl, hw⟩
  subst hw
  go_wp2_with fail
  go_ret
  exact ⟨rfl, hb1⟩
theorem countOf_any (p : Nat) (w : World) :
    Calls Tryd.prog 57 #[.int .i64 p] w fun e w' => e = .returned (.string ⟨(grayL (p % 8)).toArray⟩) ∧ Below w.heap.size w w' := by
  have hq : (p : Int).tmod 8 = ((p % 8 : Nat) : Int) := by rw [Int.tmod_eq_emod_of_nonneg (by omega)]; omega
  have hlt : p % 8 < 8 := Nat.mod_lt _ (by omega)
  generalize p % 8 = q at *
  match q, hlt with
  | 0, _ => exact count_0 p w hq
  | 1, _ => exact count_1 p w hq
  | 2, _ => exact count_2 p w hq
  | 3, _ => exact count_3 p w hq
  | 4, _ => exact count_4 p w hq
  | 5, _ => exact count_5 p w hq
  | 6, _ => exact count_6 p w hq
  | 7, _ => exact count_7 p w hq
  | n + 8, h => exact absurd h (by omega)
end Bw
end Go.Proofs.YtfomempleaceiaaDoor
namespace Go.Proofs.YtfomempleaceiaaDoor
open Go.ChangeShapes Go.WideShapes Go.ChangeAt Go.RowKit
namespace Bw
open Bm

set_option maxHeartbeats 1000000 in
theorem fixed_bad (s : ByteArray) (a : Int) (w : World) (hs : s.size ≤ maxLen) (hc : checkE s.data.toList ≠ 0) :
    Calls Tryd.prog 58 #[.string s, .int .u8 a] w fun e w' => e = .returned (.tuple #[.string ⟨#[]⟩, .int .i64 (checkE s.data.toList)]) ∧ Below w.heap.size w w' := by
  have HS := Hid.mk hs
  have hc' : (checkE s.data.toList == 0) = false := by simpa using hc
  clear hs
  go_enter Tryd.func58, Tryd.ntmps58
  go_wp2_with fail
  refine (check_any s w HS.out).mono ?_
  rintro e w1 ⟨rfl, hb1⟩
  go_wp2_with fail
  go_ret2
  exact ⟨rfl, hb1⟩

set_option maxHeartbeats 1000000 in
theorem fixed_range (s : ByteArray) (a : Int) (w : World) (hc : checkE s.data.toList = 0) (h0 : a ≠ 48) (h1 : a ≠ 49) :
    Calls Tryd.prog 58 #[.string s, .int .u8 a] w fun e w' => e = .returned (.tuple #[.string ⟨#[]⟩, .int .i64 3]) ∧ Below w.heap.size w w' := by
  obtain ⟨h1000, hrow⟩ := small_of_check hc
  have hck := fun W => check_any s W (by unfold maxLen; omega)
  rw [hc] at hck
  have h0' : (a != 48) = true := by simpa using h0
  have h1' : (a != 49) = true := by simpa using h1
  clear hc hrow h0 h1
  go_enter Tryd.func58, Tryd.ntmps58
  go_wp2_with fail
  refine (hck w).mono ?_
  rintro e w1 ⟨rfl, hb1⟩
  clear hck
  go_wp2_with fail
  go_ret2
  exact ⟨rfl, hb1⟩

theorem bit_bools {c : UInt8} (h : bit c = true) : ((c.toNat : Int) != 48 && (c.toNat : Int) != 49) = false := by
  rcases (bit_iff c).1 h with h | h <;> rw [h] <;> rfl

set_option maxHeartbeats 8000000 in
theorem fixed_ok (s : ByteArray) (a : UInt8) (w : World) (hc : checkE s.data.toList = 0) (ha : bit a = true) :
    Calls Tryd.prog 58 #[.string s, .int .u8 a.toNat] w fun e w' => e = .returned (.tuple #[.string ⟨(fixR s.data.toList a s.size).toArray⟩, .int .i64 0]) ∧ Below w.heap.size w w' := by
  obtain ⟨i0, hi, hz0, hz1, hz2⟩ := info_parts info_u8
  obtain ⟨h1000, hrow⟩ := small_of_check hc
  have hck := fun W => check_any s W (by unfold maxLen; omega)
  rw [hc] at hck
  have HR := Hid.mk hrow
  have HA := Hid.mk ha
  have hll : s.data.toList.length = s.size := by simp
  have HLL := Hid.mk hll
  have hab : ((a.toNat : Int) != 48) = false ∨ (((a.toNat : Int) != 48) = true ∧ ((a.toNat : Int) != 49) = false) := by
    rcases (bit_iff a).1 ha with h | h
    · left; rw [h]; rfl
    · right; rw [h]; exact ⟨rfl, rfl⟩
  clear hc hrow ha hll
  go_enter Tryd.func58, Tryd.ntmps58
  go_wp2_with fail
  refine (hck w).mono ?_
  rintro e w1 ⟨rfl, hb1⟩
  clear hck
  have hw1 := hb1.size
  rcases hab with hab | ⟨hab, hab2⟩
  all_goals focus
    go_wp2_with fail
    go_loopw [1, 7, 22] (fun av r i wr => ∃ k : Nat, k ≤ s.size ∧ i = .int .i64 k ∧ av = .int .u8 (fixP s.data.toList a k).toNat ∧ wr.ownsRow w.heap.size 5 1 r (fixR s.data.toList a k).length (cellsOf (fixR s.data.toList a k)) ∧ Below w.heap.size w wr) (fun _ _ i _ => s.size - (intOf i).toNat)
    case atStart => exact ⟨0, Nat.zero_le _, rfl, rfl, World.ownsRow_nil _ _ _ _, hb1⟩
    case round =>
      obtain ⟨k, hk, rfl, rfl, hown, hbel⟩ := hrel
      obtain ⟨o, ho⟩ : ∃ o, o = fixR s.data.toList a k := ⟨_, rfl⟩
      obtain ⟨p, hp⟩ : ∃ p, p = fixP s.data.toList a k := ⟨_, rfl⟩
      rw [← ho] at hown
      rw [← hp]
      have hsz := hbel.size
      have hol : o.length ≤ 2000 := by
        have := fixR_len s.data.toList a k
        rw [← ho] at this
        omega
      have hpb : bit p = true := by
        rw [hp]
        cases k with
        | zero => exact HA.out
        | succ k => rw [show fixP s.data.toList a (k + 1) = s.data.toList.getD k 0 from rfl, ← at_getD s k (by omega)]; exact rowB_at HR.out k (by omega)
      have HO := Hid.mk ho
      have HP := Hid.mk hp
      have HPB := Hid.mk hpb
      clear ho hp hpb
      by_cases hlt : k < s.size
      · have hlt' : (k : Int) < (s.size : Int) := by omega
        obtain ⟨c, hcE⟩ : ∃ c, c = s[k] := ⟨_, rfl⟩
        have hgd : s.data.toList.getD k 0 = c := by rw [hcE, at_getD s k hlt]
        have hP2 : fixP s.data.toList a (k + 1) = c := hgd
        have HP2 := Hid.mk hP2
        have HGD := Hid.mk hgd
        have hcv : s[k] = c := hcE.symm
        clear hcE hgd hP2
        by_cases h4 : k % 4 = 0
        · have h4' : ((k : Int) % 4 == 0) = true := by simp; omega
          have hnext : fixR s.data.toList a (k + 1) = o ++ [otb p] ++ [c] := by rw [fixR, if_pos h4, ← HO.out, ← HP.out, HGD.out]
          have HN := Hid.mk hnext
          clear hnext h4
          go_wp2_with fail
          refine (otherS_any p _ HPB.out).mono ?_
          rintro e w2 ⟨rfl, hw2⟩
          subst hw2
          have hol2 : (o ++ [otb p]).length ≤ 2001 := by rw [List.length_append]; simp; omega
          go_wp2_with (first
            | (at_builtin; refine wpList_append_own _ rfl (.tmp 28) (.tmp 31) 28 rfl w.heap.size 5 i0 (.int .u8 0) 1 1 Tryd.underlying28 hi hz0 hz1 hz2 rfl (by decide) _ _ _ rfl (hown.alloc _) ⟨w2.heap.size, 0, none⟩ 1 1 [Value.int .u8 (otb p).toNat] rfl rfl (by intro q u hq; match q, hq with | 0, hq => (simp at hq; subst hq; simp [Addr.add])) (by intro u hu; simp at hu; subst hu; rfl) (by unfold maxLen; omega) (by omega) (by simp; omega) ?_; intro v1 w3 hown1 hgrow1 _
               have hbel3 : Below w.heap.size w w3 := Below.grown (hbel.alloc hsz _) hgrow1 (by simp; omega) (fun q hq => (hown.lt q hq).1)
               have hown1' : w3.ownsRow w.heap.size 5 1 v1 (o ++ [otb p]).length (cellsOf (o ++ [otb p])) := by
                 rw [cellsOf_append, List.length_append]; exact hown1
               have hsz3 := hbel3.size
               clear hown hown1 hgrow1 hbel hsz)
            | (at_builtin; refine wpList_append_own _ rfl (.tmp 33) (.tmp 37) 28 rfl w.heap.size 5 i0 (.int .u8 0) 1 1 Tryd.underlying28 hi hz0 hz1 hz2 rfl (by decide) _ _ _ rfl (hown1'.alloc _) ⟨w3.heap.size, 0, none⟩ 1 1 [Value.int .u8 c.toNat] rfl rfl (by intro q u hq; match q, hq with | 0, hq => (simp at hq; subst hq; simp [Addr.add])) (by intro u hu; simp at hu; subst hu; rfl) (by unfold maxLen; omega) (by omega) (by simp; omega) ?_; intro v4 w4 hown4 hgrow4 _))
          have hbel4 : Below w.heap.size w w4 := Below.grown (hbel3.alloc hsz3 _) hgrow4 (by simp; omega) (fun q hq => (hown1'.lt q hq).1)
          have hown4' : w4.ownsRow w.heap.size 5 1 v4 (o ++ [otb p] ++ [c]).length (cellsOf (o ++ [otb p] ++ [c])) := by
            rw [cellsOf_append, show (o ++ [otb p] ++ [c]).length = (o ++ [otb p]).length + 1 from List.length_append ..]; exact hown4
          clear hown1' hown4 hgrow4 hbel3 hsz3
          go_wp2_with fail
          go_roundw
          case rel => exact ⟨k + 1, by omega, by go_num, by rw [HP2.out], by rw [HN.out]; exact hown4', hbel4⟩
          case measure => simp [intOf]; omega
        · have h4' : ((k : Int) % 4 == 0) = false := by rw [beq_eq_false_iff_ne]; omega
          have hnext : fixR s.data.toList a (k + 1) = o ++ [c] := by rw [fixR, if_neg h4, ← HO.out, HGD.out]
          have HN := Hid.mk hnext
          clear hnext h4
          go_wp2_with (at_builtin; refine wpList_append_own _ rfl (.tmp 33) (.tmp 37) 28 rfl w.heap.size 5 i0 (.int .u8 0) 1 1 Tryd.underlying28 hi hz0 hz1 hz2 rfl (by decide) _ _ _ rfl (hown.alloc _) ⟨wr.heap.size, 0, none⟩ 1 1 [Value.int .u8 c.toNat] rfl rfl (by intro q u hq; match q, hq with | 0, hq => (simp at hq; subst hq; simp [Addr.add])) (by intro u hu; simp at hu; subst hu; rfl) (by unfold maxLen; omega) (by omega) (by simp; omega) ?_; intro v4 w4 hown4 hgrow4 _)
          have hbel4 : Below w.heap.size w w4 := Below.grown (hbel.alloc hsz _) hgrow4 (by simp; omega) (fun q hq => (hown.lt q hq).1)
          have hown4' : w4.ownsRow w.heap.size 5 1 v4 (o ++ [c]).length (cellsOf (o ++ [c])) := by
            rw [cellsOf_append, List.length_append]; exact hown4
          clear hown hown4 hgrow4 hbel hsz
          go_wp2_with fail
          go_roundw
          case rel => exact ⟨k + 1, by omega, by go_num, by rw [HP2.out], by rw [HN.out]; exact hown4', hbel4⟩
          case measure => simp [intOf]; omega
      · have e : k = s.size := by omega
        subst e
        have hfin := HO.out
        subst hfin
        have hcv := convert_own hown
        clear hown
        go_wp2_with fail
        go_ret2
        exact ⟨rfl, hbel⟩
end Bw
end Go.Proofs.YtfomempleaceiaaDoor
namespace Go.Proofs.YtfomempleaceiaaDoor
open Go.ChangeShapes Go.WideShapes Go.ChangeAt Go.RowKit
namespace Bw
open Bm Cm

def fixedL (p : List UInt8) (q n : Nat) : List UInt8 := fixL (grayL (q % 8) ++ sumL (endK n) (p ++ grayL (q % 8))) (lastB p)
theorem fastL_fixed (h p : List UInt8) (n : Nat) : fastL h p n = fixedL p (p.length - h.length) n := rfl
theorem fix_lenE (l : List UInt8) (a : UInt8) : ∀ i, (fixR l a i).length = i + (i + 3) / 4
  | 0 => rfl
  | i + 1 => by
    rw [fixR]
    have h := fix_lenE l a i
    split
    · simp [h]; omega
    · simp [h]; omega
theorem fixedL_len (p : List UInt8) (q n : Nat) : (fixedL p q n).length = if 16 < n then 32 else 27 := by
  unfold fixedL fixL
  rw [fix_lenE, List.length_append, sumL_len, (gray_row _ (Nat.mod_lt _ (by omega))).2]
  unfold endK
  split
  · rw [show kS 2 = 21 from rfl]
  · rw [show kS 1 = 17 from rfl]

set_option maxHeartbeats 4000000 in
theorem fixedPart_any (p : ByteArray) (q n : Nat) (w : World) (hR : RulesAt w) (hp1 : 1 ≤ p.size) (hp : p.size ≤ 990) (hrow : rowB p.data.toList = true) (hn : n ≤ 1000) :
    Calls Tryd.prog 32 #[.string p, .int .i64 q, .int .i64 n] w fun e w' => e = .returned (.string ⟨(fixedL p.data.toList q n).toArray⟩) ∧ Below w.heap.size w w' := by
  have hpl : p.data.toList.length = p.size := by simp
  have hm8 : q % 8 < 8 := Nat.mod_lt _ (by omega)
  have hgr := gray_row (q % 8) hm8
  have hco := fun W => countOf_any q W
  unfold fixedL fixL lastB
  rw [hpl]
  have hcl := mk_list (grayL (q % 8))
  generalize grayL (q % 8) = gl at *
  generalize ByteArray.mk gl.toArray = C at *
  have hCs : C.size = 4 := by rw [ba_size hcl, hgr.2]
  obtain ⟨Y, hY⟩ : ∃ Y, Y = p ++ C := ⟨_, rfl⟩
  have hYl : Y.data.toList = p.data.toList ++ gl := by rw [hY, ba_cat, hcl]
  have hYs : Y.size = p.size + 4 := by rw [ba_size hYl, List.length_append, hgr.2, hpl]
  have hYr : rowB Y.data.toList = true := by rw [hYl, rowB_append, hrow, hgr.1]; rfl
  have hYc : checkE Y.data.toList = 0 := checkE_row hYr (by simp; omega)
  have hso := fun W hW => sum_ok (endK n) Y W hW hYc (endK_le n)
  rw [hYl] at hso
  have hsl := mk_list (sumL (endK n) (p.data.toList ++ gl))
  have hsn := sumL_len (endK n) (p.data.toList ++ gl)
  have hsr := sumL_row (endK n) (p.data.toList ++ gl)
  generalize sumL (endK n) (p.data.toList ++ gl) = sl at *
  generalize ByteArray.mk sl.toArray = S at *
  obtain ⟨Z, hZ⟩ : ∃ Z, Z = C ++ S := ⟨_, rfl⟩
  have hZl : Z.data.toList = gl ++ sl := by rw [hZ, ba_cat, hcl, hsl]
  have hk21 := (kinds_ok (endK n) (endK_le n)).2.1
  have hSs : S.size ≤ 21 := by rw [ba_size hsl, hsn]; exact hk21
  have hZs : Z.size = (gl ++ sl).length := ba_size hZl
  have hZr : rowB Z.data.toList = true := by rw [hZl, rowB_append, hgr.1, hsr]; rfl
  have hZc : checkE Z.data.toList = 0 := checkE_row hZr (by rw [hZl, List.length_append, hgr.2, hsn]; omega)
  have hpz : p.size - 1 < p.size := by clear hYs hCs hZs; omega
  have hpi : p[p.size - 1] = p.data.toList.getD (p.size - 1) 0 := at_getD p _ hpz
  have hlb : bit (p.data.toList.getD (p.size - 1) 0) = true := by rw [← hpi]; exact rowB_at hrow _ hpz
  have hfx := fun W => fixed_ok Z (p.data.toList.getD (p.size - 1) 0) W hZc hlb
  rw [hZl, hZs] at hfx
  have HSO := Hid.mk hso
  have HFX := Hid.mk hfx
  have HYE := Hid.mk hY
  have HZE := Hid.mk hZ
  have HR := Hid.mk hR
  have HCO := Hid.mk hco
  have hCm : C.size ≤ 4 := by omega
  have hpe : (1 : Int) ≤ (p.size : Int) := by omega
  have hek : (endK n : Int) = if (16 : Int) < (n : Int) then 2 else 1 := by unfold endK; split <;> split <;> omega
  have hZn := congrArg List.length hZl
  generalize p.data.toList.getD (p.size - 1) 0 = lb at *
  generalize ByteArray.mk (fixR (gl ++ sl) lb (gl ++ sl).length).toArray = FB at *
  clear hpl hgr hcl hCs hYl hYs hYr hYc hso hsl hsn hsr hZl hZs hZr hZc hfx hY hZ hrow hR hco hlb hZn hm8
  by_cases h16 : (16 : Int) < (n : Int)
  · rw [if_pos h16] at hek
    have hs2 := HSO.out
    simp only [hek, HYE.out] at hs2
    have HS2 := Hid.mk hs2
    have hf2 := HFX.out
    simp only [HZE.out] at hf2
    have HF2 := Hid.mk hf2
    clear hek hs2 hf2
    go_enter Tryd.func32, Tryd.ntmps32
    go_wp2_with fail
    refine (HCO.out _).mono ?_
    rintro e w1 ⟨rfl, hb1⟩
    go_wp2_with fail
    refine (HS2.out _ (HR.out.kept hb1)).mono ?_
    rintro e w2 ⟨rfl, hb2⟩
    have hbel2 := bl2 hb1 hb2
    clear hb1 hb2
    go_wp2_with fail
    refine (HF2.out _).mono ?_
    rintro e w3 ⟨rfl, hb3⟩
    have hbel3 := bl2 hbel2 hb3
    clear hbel2 hb3
    go_wp2_with fail
    go_ret
    exact ⟨rfl, hbel3⟩
  · rw [if_neg h16] at hek
    have hs2 := HSO.out
    simp only [hek, HYE.out] at hs2
    have HS2 := Hid.mk hs2
    have hf2 := HFX.out
    simp only [HZE.out] at hf2
    have HF2 := Hid.mk hf2
    clear hek hs2 hf2
    go_enter Tryd.func32, Tryd.ntmps32
    go_wp2_with fail
    refine (HCO.out _).mono ?_
    rintro e w1 ⟨rfl, hb1⟩
    go_wp2_with fail
    refine (HS2.out _ (HR.out.kept hb1)).mono ?_
    rintro e w2 ⟨rfl, hb2⟩
    have hbel2 := bl2 hb1 hb2
    clear hb1 hb2
    go_wp2_with fail
    refine (HF2.out _).mono ?_
    rintro e w3 ⟨rfl, hb3⟩
    have hbel3 := bl2 hbel2 hb3
    clear hbel2 hb3
    go_wp2_with fail
    go_ret
    exact ⟨rfl, hbel3⟩
end Bw
end Go.Proofs.YtfomempleaceiaaDoor
