/- The law CheckSum returns true where the row is right and has at least as many bits as a sum of the kind. -/
import Derived.Test.YtdhmjbnpdmneiabDoorCsumWalk
import Derived.BigQuiet
import Derived.Lib.QuietBelow
namespace Go.Proofs.YtdhmjbnpdmneiabDoor
open Go.ChangeShapes Go.WideShapes Go.ChangeAt Go.RowKit
namespace Bw
open Bm Cm Go.Sort

set_option maxHeartbeats 4000000 in
theorem csum_ok (k : Nat) (b : ByteArray) (w : World) (hR : RulesAt w) (hD : w.cell? ⟨6, 1, none⟩ = some (.int .u8 1)) (hc : checkE b.data.toList = 0) (hk : k ≤ 4) (hs : kS k ≤ b.size) :
    Calls Tryd.prog 4 #[.int .i64 k, .string b] w fun e w' => e = .returned (.bool true) ∧ Below w.heap.size w w' := by
  obtain ⟨h1000, hrow⟩ := small_of_check hc
  have HR := Hid.mk hR
  have HD := Hid.mk hD
  have hss := fun W hW => sum_ok k b W hW hc hk
  have hro := fun W => checkRow_any b W (show b.size ≤ maxLen by unfold maxLen; omega)
  rw [hc] at hro
  have HRO := Hid.mk hro
  have hhh := fun W hW => holds_ok k b W hW hc hk hs
  have HZ := Hid.mk (fun W hW => size_ok k W hW hk)
  have hso := fun W hW => Ww.sumOf_any k b W hW hk h1000 hrow
  rw [show sumL k b.data.toList = bitsHead (sumV k b.data.toList) (kS k) (kS k) from rfl] at hss
  generalize ByteArray.mk (bitsHead (sumV k b.data.toList) (kS k) (kS k)).toArray = T at *
  obtain ⟨s8, s21, _⟩ := kinds_ok k hk
  obtain ⟨m, hm⟩ : ∃ m, m = b.size - kS k := ⟨_, rfl⟩
  rw [← hm] at hhh
  have hmb : m ≤ b.size := by omega
  have hmi : (b.size : Int) - (kS k : Int) = (m : Int) := by omega
  have hx : (b.extract 0 m).data.toList = b.data.toList.take m := by
    rw [show m = 0 + m by omega, extract_list b 0 m]; simp
  have hxs : (b.extract 0 m).size = m := by rw [ba_size hx]; simp; omega
  have hs2 := fun W hW => Ww.sumOf_any k (b.extract 0 m) W hW hk (by omega) (by rw [hx]; exact rowB_take hrow m)
  rw [hx] at hs2
  have hUl : (ByteArray.mk (bitsHead (sumV k (b.data.toList.take m)) (kS k) (kS k)).toArray).data.toList = sumL k (b.data.toList.take m) := by rw [mk_list]; rfl
  generalize ByteArray.mk (bitsHead (sumV k (b.data.toList.take m)) (kS k) (kS k)).toArray = U at *
  have hdl : (b.extract m b.size).data.toList = b.data.toList.drop m := by
    have e : b.size = m + (b.size - m) := by omega
    rw [e, extract_list b m (b.size - m), List.take_of_length_le (by simp)]
  have heq : decide (b.data.toList.drop m = sumL k (b.data.toList.take m)) = (U.toList == (b.extract m b.size).toList) := by
    rw [ByteArray.toList_eq, ByteArray.toList_eq, hdl, hUl, Bool.eq_iff_iff, beq_iff_eq, decide_eq_true_iff]
    exact ⟨fun h => h.symm, fun h => h.symm⟩
  rw [heq] at hhh
  have HS := Hid.mk hss
  have HSO := Hid.mk hso
  have HS2 := Hid.mk hs2
  have HH := Hid.mk hhh
  have hk' : (k : Int) < 5 := by omega
  have hk4 : (k : Int) ≤ 4 := by omega
  have hlt : decide ((b.size : Int) < (kS k : Int)) = false := by simpa using hs
  have htb := tabS' k hk
  generalize hq : (U.toList == (b.extract m b.size).toList) = q at *
  have HQ := Hid.mk hq
  clear hR hD hc hrow hss hro hso hs2 hhh hx hUl hdl heq hm hq
  go_enter Tryd.func4, Tryd.ntmps4
  go_wp2_with fail
  refine (HS.out w HR.out).mono ?_
  rintro e w1 ⟨rfl, hb1⟩
  have R1 := Hid.mk (HR.out.kept hb1)
  go_wp2_with fail
  refine (HH.out w1 R1.out).mono ?_
  rintro e w2 ⟨rfl, hb2⟩
  have hbel2 := bl2 hb1 hb2
  have R2 := Hid.mk (HR.out.kept hbel2)
  clear hb1 hb2
  go_wp2_with fail
  refine (HZ.out w2 R2.out).mono ?_
  rintro e w3 ⟨rfl, hw3⟩
  subst hw3
  go_wp2_with fail
  refine (HRO.out w3).mono ?_
  rintro e w4 ⟨rfl, hw4⟩
  subst hw4
  go_wp2_with fail
  refine (summed_any w4 R2.out).mono ?_
  rintro e w5 ⟨rfl, hb5⟩
  have hbel5 := bl2 hbel2 hb5
  clear hb5 hbel2 R1 R2
  go_wp2_with fail
  have hbA : Below w5.heap.size w5 (w5.alloc (.cells #[.int .i64 15, .int .i64 17, .int .i64 21, .int .i64 8, .int .i64 16] 3)) := (Below.refl _ _).alloc (Nat.le_refl _) _
  refine (HSO.out _ (cell_kept hbA (cell_kept hbel5 HD.out))).mono ?_
  rintro e w6 ⟨rfl, hb6⟩
  have hbel6 := bl2 (bl2 hbel5 hbA) hb6
  clear hbA hb6 hbel5
  have hsl : ∀ W, (Instr.slice 9 (.string b) none (some (.int .i64 ((b.size : Int) - (kS k : Int)))) none).run Tryd.prog W = .ok (.string (b.extract 0 m)) W := by
    intro W
    rw [hmi, run_slice_string_h W _ b Tryd.underlying9 .i64 _ (by omega) (by omega)]; rfl
  have hsh : ∀ W, (Instr.slice 9 (.string b) (some (.int .i64 ((b.size : Int) - (kS k : Int)))) none none).run Tryd.prog W = .ok (.string (b.extract m b.size)) W := by
    intro W
    rw [hmi, run_slice_string_l W _ b Tryd.underlying9 .i64 _ (by omega) (by omega)]; rfl
  have HD6 : Hid (w6.cell? ⟨6, 1, none⟩ = some (.int .u8 1)) := Hid.mk (cell_kept hbel6 HD.out)
  go_wp2_with fail
  refine wp_region_quiet_below (by kernel_rfl) (by kernel_rfl) ?_
  set_option maxRecDepth 100000 in
  repeat (go_big_quiet_step ((go_at_call 14; exact Calls.regrown_of (HS2.out _ (cell_regrown HD6.out _ _)))))
  refine wpQuiet_nil ?_
  intro _ hw'
  obtain ⟨⟨dq, osq⟩, hw''⟩ := hw'
  subst hw''
  have hbq := bl2 hbel6 (below_regrown w6 dq osq)
  rw [HQ.out]
  go_wp2_with fail
  go_ret
  exact ⟨ret_bool (by simp), hbq⟩

theorem checkSumLaw (k : Int) (b : ByteArray) (w : World) (hb : b.size ≤ maxLen) (hR : RulesAt w) (hD : w.cell? ⟨6, 1, none⟩ = some (.int .u8 1)) :
    Calls Tryd.prog 4 #[.int .i64 k, .string b] w fun e w' => e = .returned (.bool true) ∧ Below w.heap.size w w' := by
  by_cases hc : checkE b.data.toList = 0
  · by_cases h0 : k < 0
    · exact csum_who_neg k b w hb hR hc h0
    · by_cases h4 : 4 < k
      · exact csum_who_big k b w hb hR hc h4 (by omega)
      · obtain ⟨kd, rfl⟩ : ∃ kd : Nat, k = (kd : Int) := ⟨k.toNat, by omega⟩
        by_cases hs : b.size < kS kd
        · exact csum_short kd b w hR hD hc (by omega) hs
        · exact csum_ok kd b w hR hD hc (by omega) (by omega)
  · by_cases h0 : k < 0
    · exact csum_bad_neg k b w hb hR hc h0
    · by_cases h4 : 4 < k
      · exact csum_bad_big k b w hb hR hc h4 (by omega)
      · exact csum_bad_in k b w hb hR hc k.toNat (by omega) (by omega)
end Bw
end Go.Proofs.YtdhmjbnpdmneiabDoor
