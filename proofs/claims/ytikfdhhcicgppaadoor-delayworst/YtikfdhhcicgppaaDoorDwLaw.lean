/- The law DelayWorst: any tasks have the load, and wait at most as long, as the document says, errors too. -/
import Derived.Test.YtikfdhhcicgppaaDoorDwMath
import Derived.Test.YtikfdhhcicgppaaDoorDwRef
import Derived.Test.YtikfdhhcicgppaaDoorDlClone
namespace Go.Proofs.YtikfdhhcicgppaaDoor
open Go.ChangeShapes Go.WideShapes Go.ChangeAt Go.RowKit Go.Sort
namespace Bw
set_option linter.unusedVariables false
theorem load_any (a : Option Addr) (n c : Nat) (l : List Tk) (w : World) (hT : IsTks w a n c l) (hS : SizesAt w) (hR : RulesAt w) :
    Calls Tryd.prog 5 #[.slice a n c] w fun e w' => ∃ N : Nat, e = .returned (.tuple #[.int .i64 (N : Nat), .int .i64 (chkT l)]) ∧ (chkT l = 0 → N = loadT l) ∧ (chkT l ≠ 0 → N = 0) ∧ Below w.heap.size w w' := by
  by_cases h : chkT l = 0
  · refine (load_ok a n c l w hT h hS hR).mono ?_
    rintro e w' ⟨rfl, hb⟩
    exact ⟨loadT l, by rw [h], fun _ => rfl, fun hn => absurd h hn, hb⟩
  · refine (load_bad a n c l w hT h).mono ?_
    rintro e w' ⟨rfl, hb⟩
    exact ⟨0, rfl, fun hn => absurd hn h, fun _ => rfl, hb⟩
theorem okT_form {r : Tk} (h : okT r = true) : ∃ (id b la : Int) (T J C : Nat), r = ⟨id, b, (T : Int), la, (J : Int)⟩ ∧ tN r = T ∧ jN r = J ∧ cN r = C ∧ 1 ≤ T ∧ T ≤ 1000000 ∧ J < T ∧ 55 ≤ C ∧ C ≤ 135 := by
  obtain ⟨q1, q2, q3, q4, q5, q6, q7, -⟩ := okT_n h
  refine ⟨r.id, r.by_, r.la, tN r, jN r, cN r, ?_, rfl, rfl, rfl, q3, q4, q5, q1, q2⟩
  rw [← q6, ← q7]
theorem slice_head (x : Addr) (n c k : Nat) (hk : k ≤ c) (W : World) : (Instr.slice 22 (.slice (some x) n c) none (some (.int .i64 (k : Int))) none).run Tryd.prog W = .ok (.slice (some x) k c) W := by
  have hu : Tryd.prog.underlying 22 = some (.slice (Tryd.prog.elem 22)) := by kernel_rfl
  have hs : (sizeOf (Tryd.prog.elem 22)).run Tryd.prog W = .ok 5 W := by
    obtain ⟨i, hi, -⟩ := info_partsD info_task
    rw [show Tryd.prog.elem 22 = 32 by kernel_rfl, run_sizeOf _ hi, show Tryd.prog.cellsOf 32 = 5 by kernel_rfl]
  have e := run_slice_h (w := W) 22 (some x) n c hu .i64 (k : Int) (by omega) (by omega)
  rw [e, hs]
  have et : (k : Int).toNat = k := by omega
  have ea : x.add (0 * 5) = x := rfl
  simp only [Result.andThen, sliced, et, Option.map_some, ea, Nat.sub_zero]
  by_cases hc : c = 0
  · rw [if_pos hc]
  · rw [if_neg hc]
theorem quo_up {T J w : Nat} (h : 1 ≤ T) : ((w : Int) + (J : Int)).tdiv (T : Int) = (((w + J) / T : Nat) : Int) := by
  rw [show ((w : Int) + (J : Int)) = ((w + J : Nat) : Int) by omega]; rfl
theorem quo_load {C T : Nat} (h : 1 ≤ T) : ((C : Int) * 1000000 + (T : Int) - 1).tdiv (T : Int) = ((upN (1000000 * C) T : Nat) : Int) := by
  rw [show ((C : Int) * 1000000 + (T : Int) - 1) = ((1000000 * C + T - 1 : Nat) : Int) by omega]; rfl
theorem wrap_small {x : Int} (h0 : -1000000000000000 ≤ x) (h1 : x ≤ 1000000000000000) : IntKind.i64.wrap x = x := by rw [IntKind.wrap_i64]; omega
theorem quo_wrap {X : Int} {U : Nat} (h : X = (U : Int)) (h1 : U ≤ 1000000000000) : IntKind.i64.wrap X = (U : Int) := by rw [h]; exact wrap_small (by omega) (by omega)
theorem stL_atW (l : List Tk) {n i : Nat} (h : i < n) : (stL l n).getD i (0, false) = (stopAt l i, fitB l i) := by simp [stL, List.getD, h]
theorem mul_small {U C : Nat} (hU : U ≤ 1300000) (hC : C ≤ 135) : 0 ≤ (U : Int) * (C : Int) ∧ (U : Int) * (C : Int) ≤ 175500000 ∧ ((U : Int) * (C : Int) = ((C * U : Nat) : Int)) := by
  have h1 : C * U ≤ 135 * 1300000 := Nat.mul_le_mul hC hU
  have e : (U : Int) * (C : Int) = ((C * U : Nat) : Int) := by rw [Int.natCast_mul, Int.mul_comm]
  rw [e]
  omega
set_option maxHeartbeats 2000000 in
set_option maxRecDepth 100000 in
theorem dworst_bad (a : Option Addr) (n c : Nat) (l : List Tk) (w : World) (hT : IsTks w a n c l) (hS : SizesAt w) (hR : RulesAt w) (hE : chkT l ≠ 0) :
    Calls Tryd.prog 3 #[.slice a n c] w fun e w' => e = .returned (.bool true) ∧ Below w.heap.size w w' := by
  have HT := Hid.mk hT
  have HS := Hid.mk hS
  have HR := Hid.mk hR
  have HEZ := Hid.mk hE
  obtain ⟨E, hE0⟩ : ∃ E : Int, E = chkT l := ⟨_, rfl⟩
  have HE := Hid.mk hE0
  have HL1 := Hid.mk (load_any a n c l w hT hS hR)
  rw [← hE0] at HL1
  clear hT hS hR hE hE0
  go_enter Tryd.func3, Tryd.ntmps3
  go_wp2_with fail
  refine HL1.out.mono ?_
  rintro e w1 ⟨N, rfl, hn1, hn2, hb1⟩
  have HB1 := Hid.mk hb1
  have HNO := Hid.mk hn1
  have HNZ := Hid.mk hn2
  have HL2 := Hid.mk (worst_any a n c l w1 (HT.out.kept hb1) (HS.out.kept hb1) (HR.out.kept hb1))
  rw [← HE.out] at HL2
  clear hb1 hn1 hn2 HL1
  go_wp2_with fail
  refine HL2.out.mono ?_
  rintro e w2 ⟨b, m, d, rfl, hm1, hm2, hb2⟩
  have HB2 := Hid.mk (bl2 HB1.out hb2)
  have HMO := Hid.mk hm1
  have HMZ := Hid.mk hm2
  have HL3 := Hid.mk (lchk_any a n c l w2 (HT.out.kept HB2.out))
  rw [← HE.out] at HL3
  clear hb2 hm1 hm2 HL2
  go_wp2_with fail
  refine HL3.out.mono ?_
  rintro e w3 ⟨rfl, hb3⟩
  have HB3 := Hid.mk (bl2 HB2.out hb3)
  have HK3 := Hid.mk hb3
  have HL4 := Hid.mk (delayed_any w3 (HS.out.kept HB3.out) (HR.out.kept HB3.out))
  clear hb3 HL3
  go_wp2_with fail
  refine HL4.out.mono ?_
  rintro e w4 ⟨rfl, hb4⟩
  have HB4 := Hid.mk (bl2 HB3.out hb4)
  have HK4 := Hid.mk (bl2 HK3.out hb4)
  have HL5 := Hid.mk (dcheck_any a n c l w4 (HT.out.kept HB4.out))
  rw [← HE.out] at HL5
  clear hb4 HL4
  go_wp2_with fail
  refine HL5.out.mono ?_
  rintro e w5 ⟨rfl, hb5⟩
  have HB5 := Hid.mk (bl2 HB4.out hb5)
  have HK5 := Hid.mk (bl2 HK4.out hb5)
  clear hb5 HL5
  have hne : (E != 0) = true := by rw [HE.out]; simpa using HEZ.out
  obtain rfl := HNZ.out (by rw [HE.out]; exact HEZ.out)
  obtain rfl := HMZ.out (by rw [HE.out]; exact HEZ.out)
  go_wp2_with fail
  go_ret
  exact ⟨rfl, HB5.out⟩
end Bw
end Go.Proofs.YtikfdhhcicgppaaDoor
