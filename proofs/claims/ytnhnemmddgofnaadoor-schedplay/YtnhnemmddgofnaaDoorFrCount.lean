/- What frame.countOf answers. -/
import Derived.Test.YtnhnemmddgofnaaDoorC2
import Derived.Test.YtnhnemmddgofnaaDoorC9
import Derived.Test.YtnhnemmddgofnaaDoorC3
import Derived.Test.YtnhnemmddgofnaaDoorShelfCnt
namespace Go.Proofs.YtnhnemmddgofnaaDoor
open Go.ChangeShapes Go.WideShapes Go.ChangeAt Go.RowKit
namespace Bw
open Bm Cm

set_option maxHeartbeats 1000000 in
theorem count_0 (p : Nat) (w : World) (h : (p : Int).tmod 8 = 0) :
    Calls Tryd.prog 65 #[.int .i64 p] w fun e w' => e = .returned (.string ⟨(grayL 0).toArray⟩) ∧ Below w.heap.size w w' := by
  have hx : bits .xor .i64 0 0 = 0 := by decide
  have hr := fun W => row_ok 0 3 W (by omega) (by omega)
  have hl : (bitsHead 0 3 3).toArray = #[48, 48, 48] := by decide
  rw [hl] at hr
  have hcn := fun W => Tryd.strings_Count_one ⟨#[48, 48, 48]⟩ 49 W
  have hc2 : Lib.countByte (ByteArray.mk #[48, 48, 48]).data.toList 49 = 0 := by decide
  rw [hc2] at hcn
  have HR := Hid.mk hr
  have HC := Hid.mk hcn
  clear hr hcn hc2 hl
  go_enter Tryd.func65, Tryd.ntmps65
  go_wp2_with fail
  try rw [hx]
  refine (HR.out _).mono ?_
  rintro e w1 ⟨rfl, hb1⟩
  clear HR
  go_wp2_with fail
  refine (HC.out _).mono ?_
  rintro e w2 ⟨rfl, hw⟩
  subst hw
  go_wp2_with fail
  refine (frBit_any false _).mono ?_
  rintro e w3 ⟨rfl, hw⟩
  subst hw
  go_wp2_with fail
  go_ret
  exact ⟨rfl, hb1⟩
set_option maxHeartbeats 1000000 in
theorem count_1 (p : Nat) (w : World) (h : (p : Int).tmod 8 = 1) :
    Calls Tryd.prog 65 #[.int .i64 p] w fun e w' => e = .returned (.string ⟨(grayL 1).toArray⟩) ∧ Below w.heap.size w w' := by
  have hx : bits .xor .i64 1 0 = 1 := by decide
  have hr := fun W => row_ok 1 3 W (by omega) (by omega)
  have hl : (bitsHead 1 3 3).toArray = #[48, 48, 49] := by decide
  rw [hl] at hr
  have hcn := fun W => Tryd.strings_Count_one ⟨#[48, 48, 49]⟩ 49 W
  have hc2 : Lib.countByte (ByteArray.mk #[48, 48, 49]).data.toList 49 = 1 := by decide
  rw [hc2] at hcn
  have HR := Hid.mk hr
  have HC := Hid.mk hcn
  clear hr hcn hc2 hl
  go_enter Tryd.func65, Tryd.ntmps65
  go_wp2_with fail
  try rw [hx]
  refine (HR.out _).mono ?_
  rintro e w1 ⟨rfl, hb1⟩
  clear HR
  go_wp2_with fail
  refine (HC.out _).mono ?_
  rintro e w2 ⟨rfl, hw⟩
  subst hw
  go_wp2_with fail
  refine (frBit_any true _).mono ?_
  rintro e w3 ⟨rfl, hw⟩
  subst hw
  go_wp2_with fail
  go_ret
  exact ⟨rfl, hb1⟩
set_option maxHeartbeats 1000000 in
theorem count_2 (p : Nat) (w : World) (h : (p : Int).tmod 8 = 2) :
    Calls Tryd.prog 65 #[.int .i64 p] w fun e w' => e = .returned (.string ⟨(grayL 2).toArray⟩) ∧ Below w.heap.size w w' := by
  have hx : bits .xor .i64 2 1 = 3 := by decide
  have hr := fun W => row_ok 3 3 W (by omega) (by omega)
  have hl : (bitsHead 3 3 3).toArray = #[48, 49, 49] := by decide
  rw [hl] at hr
  have hcn := fun W => Tryd.strings_Count_one ⟨#[48, 49, 49]⟩ 49 W
  have hc2 : Lib.countByte (ByteArray.mk #[48, 49, 49]).data.toList 49 = 2 := by decide
  rw [hc2] at hcn
  have HR := Hid.mk hr
  have HC := Hid.mk hcn
  clear hr hcn hc2 hl
  go_enter Tryd.func65, Tryd.ntmps65
  go_wp2_with fail
  try rw [hx]
  refine (HR.out _).mono ?_
  rintro e w1 ⟨rfl, hb1⟩
  clear HR
  go_wp2_with fail
  refine (HC.out _).mono ?_
  rintro e w2 ⟨rfl, hw⟩
  subst hw
  go_wp2_with fail
  refine (frBit_any false _).mono ?_
  rintro e w3 ⟨rfl, hw⟩
  subst hw
  go_wp2_with fail
  go_ret
  exact ⟨rfl, hb1⟩
set_option maxHeartbeats 1000000 in
theorem count_3 (p : Nat) (w : World) (h : (p : Int).tmod 8 = 3) :
    Calls Tryd.prog 65 #[.int .i64 p] w fun e w' => e = .returned (.string ⟨(grayL 3).toArray⟩) ∧ Below w.heap.size w w' := by
  have hx : bits .xor .i64 3 1 = 2 := by decide
  have hr := fun W => row_ok 2 3 W (by omega) (by omega)
  have hl : (bitsHead 2 3 3).toArray = #[48, 49, 48] := by decide
  rw [hl] at hr
  have hcn := fun W => Tryd.strings_Count_one ⟨#[48, 49, 48]⟩ 49 W
  have hc2 : Lib.countByte (ByteArray.mk #[48, 49, 48]).data.toList 49 = 1 := by decide
  rw [hc2] at hcn
  have HR := Hid.mk hr
  have HC := Hid.mk hcn
  clear hr hcn hc2 hl
  go_enter Tryd.func65, Tryd.ntmps65
  go_wp2_with fail
  try rw [hx]
  refine (HR.out _).mono ?_
  rintro e w1 ⟨rfl, hb1⟩
  clear HR
  go_wp2_with fail
  refine (HC.out _).mono ?_
  rintro e w2 ⟨rfl, hw⟩
  subst hw
  go_wp2_with fail
  refine (frBit_any true _).mono ?_
  rintro e w3 ⟨rfl, hw⟩
  subst hw
  go_wp2_with fail
  go_ret
  exact ⟨rfl, hb1⟩
set_option maxHeartbeats 1000000 in
theorem count_4 (p : Nat) (w : World) (h : (p : Int).tmod 8 = 4) :
    Calls Tryd.prog 65 #[.int .i64 p] w fun e w' => e = .returned (.string ⟨(grayL 4).toArray⟩) ∧ Below w.heap.size w w' := by
  have hx : bits .xor .i64 4 2 = 6 := by decide
  have hr := fun W => row_ok 6 3 W (by omega) (by omega)
  have hl : (bitsHead 6 3 3).toArray = #[49, 49, 48] := by decide
  rw [hl] at hr
  have hcn := fun W => Tryd.strings_Count_one ⟨#[49, 49, 48]⟩ 49 W
  have hc2 : Lib.countByte (ByteArray.mk #[49, 49, 48]).data.toList 49 = 2 := by decide
  rw [hc2] at hcn
  have HR := Hid.mk hr
  have HC := Hid.mk hcn
  clear hr hcn hc2 hl
  go_enter Tryd.func65, Tryd.ntmps65
  go_wp2_with fail
  try rw [hx]
  refine (HR.out _).mono ?_
  rintro e w1 ⟨rfl, hb1⟩
  clear HR
  go_wp2_with fail
  refine (HC.out _).mono ?_
  rintro e w2 ⟨rfl, hw⟩
  subst hw
  go_wp2_with fail
  refine (frBit_any false _).mono ?_
  rintro e w3 ⟨rfl, hw⟩
  subst hw
  go_wp2_with fail
  go_ret
  exact ⟨rfl, hb1⟩
set_option maxHeartbeats 1000000 in
theorem count_5 (p : Nat) (w : World) (h : (p : Int).tmod 8 = 5) :
    Calls Tryd.prog 65 #[.int .i64 p] w fun e w' => e = .returned (.string ⟨(grayL 5).toArray⟩) ∧ Below w.heap.size w w' := by
  have hx : bits .xor .i64 5 2 = 7 := by decide
  have hr := fun W => row_ok 7 3 W (by omega) (by omega)
  have hl : (bitsHead 7 3 3).toArray = #[49, 49, 49] := by decide
  rw [hl] at hr
  have hcn := fun W => Tryd.strings_Count_one ⟨#[49, 49, 49]⟩ 49 W
  have hc2 : Lib.countByte (ByteArray.mk #[49, 49, 49]).data.toList 49 = 3 := by decide
  rw [hc2] at hcn
  have HR := Hid.mk hr
  have HC := Hid.mk hcn
  clear hr hcn hc2 hl
  go_enter Tryd.func65, Tryd.ntmps65
  go_wp2_with fail
  try rw [hx]
  refine (HR.out _).mono ?_
  rintro e w1 ⟨rfl, hb1⟩
  clear HR
  go_wp2_with fail
  refine (HC.out _).mono ?_
  rintro e w2 ⟨rfl, hw⟩
  subst hw
  go_wp2_with fail
  refine (frBit_any true _).mono ?_
  rintro e w3 ⟨rfl, hw⟩
  subst hw
  go_wp2_with fail
  go_ret
  exact ⟨rfl, hb1⟩
set_option maxHeartbeats 1000000 in
theorem count_6 (p : Nat) (w : World) (h : (p : Int).tmod 8 = 6) :
    Calls Tryd.prog 65 #[.int .i64 p] w fun e w' => e = .returned (.string ⟨(grayL 6).toArray⟩) ∧ Below w.heap.size w w' := by
  have hx : bits .xor .i64 6 3 = 5 := by decide
  have hr := fun W => row_ok 5 3 W (by omega) (by omega)
  have hl : (bitsHead 5 3 3).toArray = #[49, 48, 49] := by decide
  rw [hl] at hr
  have hcn := fun W => Tryd.strings_Count_one ⟨#[49, 48, 49]⟩ 49 W
  have hc2 : Lib.countByte (ByteArray.mk #[49, 48, 49]).data.toList 49 = 2 := by decide
  rw [hc2] at hcn
  have HR := Hid.mk hr
  have HC := Hid.mk hcn
  clear hr hcn hc2 hl
  go_enter Tryd.func65, Tryd.ntmps65
  go_wp2_with fail
  try rw [hx]
  refine (HR.out _).mono ?_
  rintro e w1 ⟨rfl, hb1⟩
  clear HR
  go_wp2_with fail
  refine (HC.out _).mono ?_
  rintro e w2 ⟨rfl, hw⟩
  subst hw
  go_wp2_with fail
  refine (frBit_any false _).mono ?_
  rintro e w3 ⟨rfl, hw⟩
  subst hw
  go_wp2_with fail
  go_ret
  exact ⟨rfl, hb1⟩
set_option maxHeartbeats 1000000 in
theorem count_7 (p : Nat) (w : World) (h : (p : Int).tmod 8 = 7) :
    Calls Tryd.prog 65 #[.int .i64 p] w fun e w' => e = .returned (.string ⟨(grayL 7).toArray⟩) ∧ Below w.heap.size w w' := by
  have hx : bits .xor .i64 7 3 = 4 := by decide
  have hr := fun W => row_ok 4 3 W (by omega) (by omega)
  have hl : (bitsHead 4 3 3).toArray = #[49, 48, 48] := by decide
  rw [hl] at hr
  have hcn := fun W => Tryd.strings_Count_one ⟨#[49, 48, 48]⟩ 49 W
  have hc2 : Lib.countByte (ByteArray.mk #[49, 48, 48]).data.toList 49 = 1 := by decide
  rw [hc2] at hcn
  have HR := Hid.mk hr
  have HC := Hid.mk hcn
  clear hr hcn hc2 hl
  go_enter Tryd.func65, Tryd.ntmps65
  go_wp2_with fail
  try rw [hx]
  refine (HR.out _).mono ?_
  rintro e w1 ⟨rfl, hb1⟩
  clear HR
  go_wp2_with fail
  refine (HC.out _).mono ?_
  rintro e w2 ⟨rfl, hw⟩
  subst hw
  go_wp2_with fail
  refine (frBit_any true _).mono ?_
  rintro e w3 ⟨rfl, hw⟩
  subst hw
  go_wp2_with fail
  go_ret
  exact ⟨rfl, hb1⟩
theorem countOf_any (p : Nat) (w : World) :
    Calls Tryd.prog 65 #[.int .i64 p] w fun e w' => e = .returned (.string ⟨(grayL (p % 8)).toArray⟩) ∧ Below w.heap.size w w' := by
  have hq : (p : Int).tmod 8 = ((p % 8 : Nat) : Int) := by rw [Int.tmod_eq_emod_of_nonneg (by omega)]; omega
  have hlt : p % 8 < 8 := Nat.mod_lt _ (by omega)
  generalize p % 8 = q at *
  match q, hlt with
  | 0, _ => exact count_0 p w hq
  | 1, _ => exact count_1 p w hq
  | 2, _ => exact count_2 p w hq
  | 3, _ => exact count_3 p w hq
  | 4, _ => exact count_4 p w hq
  | 5, _ => exact count_5 p w hq
  | 6, _ => exact count_6 p w hq
  | 7, _ => exact count_7 p w hq
  | n + 8, h => exact absurd h (by omega)
end Bw
end Go.Proofs.YtnhnemmddgofnaaDoor
