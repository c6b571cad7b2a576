/- What the law's own xor answers of two rows as long as one another. -/
import Derived.Test.YtdhmjbnpdmneiacDoorFlipMath
import Derived.Test.YtdhmjbnpdmneiacDoorConvRow
namespace Go.Proofs.YtdhmjbnpdmneiacDoor
open Go.ChangeShapes Go.WideShapes Go.ChangeAt Go.RowKit
namespace Bw
open Bm Cm

set_option maxHeartbeats 4000000 in
theorem xor_any (a b : ByteArray) (w : World) (hab : b.size = a.size) (ha : a.size ≤ 1000) :
    Calls Tryd.prog 9 #[.string a, .string b] w fun e w' => e = .returned (.string ⟨(xorL a.data.toList b.data.toList).toArray⟩) ∧ Below w.heap.size w w' := by
  have hal : a.data.toList.length = a.size := by simp
  have hbl : b.data.toList.length = b.size := by simp
  have hfin : flipJ a.data.toList 0 b.data.toList b.size = xorL a.data.toList b.data.toList := by
    rw [← hbl]; exact flipJ_all _ _ (by omega)
  have HF := Hid.mk hfin
  have HAL := Hid.mk hal
  have hbs : b.size ≤ a.size := by omega
  have hcv := conv_run w a
  clear hfin hal hbl hab
  go_enter Tryd.func9, Tryd.ntmps9
  set_option maxRecDepth 100000 in
  go_wp2_with fail
  obtain ⟨g, hg⟩ : ∃ g, g = w.heap.size := ⟨_, rfl⟩
  have hcn := conv_new w a
  have hbel6 := conv_below w a
  have hgw : w.heap.size ≤ g := by omega
  rw [← hg] at hcn ⊢
  have HCN := Hid.mk hcn
  generalize convW w a = w6 at *
  clear hcv hcn
  go_loopw [11] (fun i wr => ∃ j : Nat, j ≤ b.size ∧ i = .int .i64 j ∧ ConvAt wr g (flipJ a.data.toList 0 b.data.toList j) ∧ Below w.heap.size w wr) (fun i _ => b.size - (intOf i).toNat)
  case atStart => exact ⟨0, Nat.zero_le _, rfl, by rw [flipJ_zero]; exact HCN.out, hbel6⟩
  case round =>
    clear HCN hbel6 hg
    obtain ⟨j, hj, rfl, hcv, hbel⟩ := hrel
    have HCV := Hid.mk hcv
    clear hcv
    by_cases hlt : j < b.size
    · have hpj := at_getD b j hlt
      have hin : 0 + j < a.data.toList.length := by rw [HAL.out]; omega
      by_cases h49 : b[j] = 49
      · have hq : ((b[j].toNat : Int) == 49) = true := by rw [h49]; rfl
        obtain ⟨hce, hfz⟩ := HCV.out.2 (0 + j) (by rw [flipJ_len]; exact hin)
        have hget : (flipJ a.data.toList 0 b.data.toList j).getD (0 + j) 0 = a.data.toList.getD (0 + j) 0 := by
          rw [List.getD, List.getD, flipJ_at]
        rw [hget] at hce
        have hset := HCV.out.set (0 + j) (by rw [flipJ_len]; exact hin) (xorB (a.data.toList.getD (0 + j) 0) (b.data.toList.getD j 0))
        rw [← flipJ_succ _ _ _ _ hin, ← hpj, h49] at hset
        have hxb : xorB (a.data.toList.getD (0 + j) 0) 49 = a.data.toList.getD (0 + j) 0 ^^^ 1 := by unfold xorB; rw [if_pos rfl]
        rw [hxb, ← xor_one] at hset
        generalize a.data.toList.getD (0 + j) 0 = c at *
        rw [Nat.zero_add] at hce hfz hset
        have HSET := Hid.mk hset
        have hij' : (j : Int) < (a.size : Int) := by omega
        clear hset hget hxb hpj hin h49
        go_wp2_with fail
        go_roundw
        case rel => exact ⟨j + 1, by omega, by go_num, HSET.out, hbel.setCell hgw _⟩
        case measure => simp [intOf]; omega
      · have hq : ((b[j].toNat : Int) == 49) = false := by
          rw [beq_eq_false_iff_ne]
          intro h
          exact h49 (UInt8.toNat_inj.1 (by show b[j].toNat = 49; omega))
        have hsame := flipJ_same a.data.toList 0 b.data.toList j (by rw [← hpj]; exact h49)
        have HSA := Hid.mk hsame
        clear hsame hpj hin h49
        go_wp2_with fail
        go_roundw
        case rel => exact ⟨j + 1, by omega, by go_num, by rw [HSA.out]; exact HCV.out, hbel⟩
        case measure => simp [intOf]; omega
    · have e : j = b.size := by omega
      subst e
      have hbk : ∀ cap, (convert 31 9 (.slice (some ⟨g, 0, none⟩) a.size cap)).run Tryd.prog wr = .ok (.string ⟨(xorL a.data.toList b.data.toList).toArray⟩) wr := by
        intro cap
        have h := HCV.out
        have hn : (flipJ a.data.toList 0 b.data.toList b.size).length = a.size := by rw [flipJ_len, HAL.out]
        rw [← HF.out]
        exact h.back cap a.size hn
      go_wp2_with fail
      go_ret
      exact ⟨rfl, hbel⟩
end Bw
end Go.Proofs.YtdhmjbnpdmneiacDoor
