/- Joined out of our texts: RefPut. -/
import Derived.Test.YthdhhmflfdbkhaaGreatDoorLawWireNoiseRAS
/- What the document's own PutBits answers of a row. -/
namespace Go.Proofs.YthdhhmflfdbkhaaGreatDoor
open Go.ChangeShapes Go.WideShapes Go.ChangeAt Go.RowKit
namespace Bw
open Bm

set_option maxHeartbeats 8000000 in
theorem putBits_any (s : ByteArray) (w : World) (hrow : rowB s.data.toList = true) (h1000 : s.size ≤ 1000) :
    Calls Tryz.prog 45 #[.string s] w fun e w' => e = .returned (.string ⟨(putF s.data.toList).toArray⟩) ∧ Below w.heap.size w w' := by
  have HR := Hid.mk hrow
  clear hrow
  go_enter Tryz.func45, Tryz.ntmps45
  go_wp2_with fail
  go_loopw [3, 8] (fun r i wr => ∃ (k : Nat) (sb : ByteArray), k ≤ s.size ∧ i = .int .i64 k ∧ r = .string sb ∧ sb.data.toList = putF (s.data.toList.take k) ∧ Below w.heap.size w wr) (fun _ i _ => s.size - (intOf i).toNat)
  case atStart => exact ⟨0, ⟨#[]⟩, Nat.zero_le _, rfl, rfl, rfl, Below.refl _ _⟩
  case round =>
    obtain ⟨k, sb, hk, rfl, rfl, hsb, hbel⟩ := hrel
    have hol : sb.size ≤ 2000 := by
      have := putF_len2 (s.data.toList.take k)
      rw [← hsb, List.length_take] at this
      simp at this
      omega
    have h4 : (endR sb.data.toList).2 ≤ 4 := by rw [hsb]; exact putF_keep _ (rowB_take HR.out k)
    have HSB := Hid.mk hsb
    have H4 := Hid.mk h4
    clear hsb h4
    by_cases hlt : k < s.size
    · have hlt' : (k : Int) < (s.size : Int) := by omega
      obtain ⟨c, hcE⟩ : ∃ c, c = s[k] := ⟨_, rfl⟩
      have hsl : ∀ W, (Instr.slice 9 (.string s) (some (.int .i64 (k : Int))) (some (.int .i64 ((k : Int) + 1))) none).run Tryz.prog W = .ok (.string ⟨#[c]⟩) W := by
        intro W
        rw [run_slice_string W _ s _ _ _ _ Tryz.underlying9 (by omega) (by omega) (by omega)]
        rw [show s.extract (k : Int).toNat ((k : Int) + 1).toNat = ⟨#[c]⟩ by rw [show (k : Int).toNat = k by omega, show ((k : Int) + 1).toNat = k + 1 by omega, one_at s k hlt, hcE]]
      have hnext : putF (s.data.toList.take (k + 1)) = putS sb.data.toList c := by rw [take_snoc s k hlt, putF_snoc, ← HSB.out, hcE]
      have hbit : bit c = true := by rw [hcE]; exact rowB_at HR.out k hlt
      have HN := Hid.mk hnext
      have HBIT := Hid.mk hbit
      clear hcE hnext hbit
      go_wp2_with fail
      generalize hX : sb ++ ⟨#[c]⟩ = X
      have hXl : X.data.toList = sb.data.toList ++ [c] := by rw [← hX, ba_cat]
      have hXs : X.size = sb.size + 1 := by rw [← hX, ByteArray.size_append]; rfl
      clear hX hsl
      have hXs1 : (sb.size : Int) < (X.size : Int) := by omega
      have hsl1 : ∀ W, (Instr.slice 9 (.string X) (some (.int .i64 (sb.size : Int))) none none).run Tryz.prog W = .ok (.string ⟨#[c]⟩) W := by
        intro W
        rw [run_slice_string_l W _ X Tryz.underlying9 .i64 _ (by omega) (by omega)]
        rw [show X.extract (sb.size : Int).toNat X.size = ⟨#[c]⟩ by rw [show (sb.size : Int).toNat = sb.size by omega, hXs, one_at X sb.size (by omega), at_getD X sb.size (by omega), hXl]; simp [List.getD]]
      have hlt3 : sb.size < X.size := by omega
      have hxi : X[sb.size] = c := by rw [at_getD X sb.size (by omega), hXl]; simp [List.getD]
      have HXL := Hid.mk hXl
      have HXS := Hid.mk hXs
      clear hXl hXs
      by_cases hge : 4 ≤ sb.size
      · have hge' : (5 : Int) ≤ (sb.size : Int) + 1 := by omega
        obtain ⟨t5, ht5⟩ : ∃ t5, t5 = X.extract (sb.size - 4) X.size := ⟨_, rfl⟩
        have hsl5 : ∀ W, (Instr.slice 9 (.string X) (some (.int .i64 ((sb.size : Int) + 1 - 5))) none none).run Tryz.prog W = .ok (.string t5) W := by
          intro W
          rw [run_slice_string_l W _ X Tryz.underlying9 .i64 _ (by omega) (by omega)]
          rw [show ((sb.size : Int) + 1 - 5).toNat = sb.size - 4 by omega, ht5]
        have hcn := fun W => Tryz.strings_Count_one t5 c W
        have hcnt : Lib.countByte t5.data.toList c = 5 ↔ (endR (sb.data.toList ++ [c])).2 = 5 := by
          have h1 : t5.data.toList = X.data.toList.drop (X.data.toList.length - 5) := by
            have e1 : X.data.toList.length = sb.size + 1 := by rw [HXL.out]; simp
            have e2 := extract_list X (sb.size - 4) 5
            rw [show sb.size - 4 + 5 = X.size by have := HXS.out; omega] at e2
            rw [ht5, e2, e1, show sb.size + 1 - 5 = sb.size - 4 by omega]
            exact List.take_of_length_le (by rw [List.length_drop, e1]; omega)
          rw [h1, HXL.out]
          have hb5 : (endR (sb.data.toList ++ [c])).2 ≤ 5 := by
            rw [endR_snoc]
            have := addR_pos (endR sb.data.toList) c
            have := H4.out
            omega
          exact five_iff _ hb5 (by simp; omega) c (by simp [List.getD])
        clear ht5
        generalize Lib.countByte t5.data.toList c = q at *
        by_cases h5 : (endR (sb.data.toList ++ [c])).2 = 5
        · have hq : ((q : Int) == 5) = true := by rw [hcnt.2 h5]; rfl
          have hS : putS sb.data.toList c = sb.data.toList ++ [c] ++ [otb c] := by unfold putS; rw [if_pos h5]
          have HS := Hid.mk hS
          clear h5 hS hcnt
          go_quiet ((go_at_call 28; refine Calls.quiet_of_same (hcn _)))
          clear hcn hsl5 hsl1
          go_wp2_with fail
          refine (otherR_any c _).mono ?_
          rintro e w2 ⟨rfl, hw2⟩
          subst hw2
          have hcv := convert_lit ((wr.drewN nq).alloc (.cells #[.int .u8 (otb c).toNat] 5)) wr.heap.size (otb c) (heap_alloc_new (wr.drewN nq) _)
          have hXs2 : (X.size : Int) ≤ 2001 := by have := HXS.out; omega
          have hbel2 : Below w.heap.size w ((wr.drewN nq).alloc (.cells #[.int .u8 (otb c).toNat] 5)) :=
            (hbel.trans ⟨rfl, rfl, rfl, Nat.le_refl _, fun _ _ => rfl⟩ : Below w.heap.size w (wr.drewN nq)).alloc hbel.size _
          go_wp2_with fail
          go_roundw
          case rel => exact ⟨k + 1, X ++ ⟨#[otb c]⟩, by omega, by go_num, rfl, by rw [ba_cat, HXL.out, HN.out, HS.out], hbel2⟩
          case measure => simp [intOf]; omega
        · have hq : ((q : Int) == 5) = false := by
            rw [beq_eq_false_iff_ne]
            exact fun e => h5 (hcnt.1 (by omega))
          have hS : putS sb.data.toList c = sb.data.toList ++ [c] := by unfold putS; rw [if_neg h5]
          have HS := Hid.mk hS
          clear h5 hS hcnt
          go_quiet ((go_at_call 28; refine Calls.quiet_of_same (hcn _)))
          clear hcn hsl5 hsl1
          go_wp2_with fail
          go_roundw
          case rel => exact ⟨k + 1, X, by omega, by go_num, rfl, by rw [HXL.out, HN.out, HS.out], hbel.trans ⟨rfl, rfl, rfl, Nat.le_refl _, fun _ _ => rfl⟩⟩
          case measure => simp [intOf]; omega
      · have hge' : decide ((5 : Int) ≤ (sb.size : Int) + 1) = false := by simp; omega
        have hS : putS sb.data.toList c = sb.data.toList ++ [c] := by
          unfold putS
          rw [if_neg]
          intro h
          have := endR_le (sb.data.toList ++ [c])
          rw [h, List.length_append] at this
          simp at this
          omega
        have HS := Hid.mk hS
        clear hS hsl1
        go_quiet (fail)
        go_wp2_with fail
        go_roundw
        case rel => exact ⟨k + 1, X, by omega, by go_num, rfl, by rw [HXL.out, HN.out, HS.out], hbel.trans ⟨rfl, rfl, rfl, Nat.le_refl _, fun _ _ => rfl⟩⟩
        case measure => simp [intOf]; omega
    · have e : k = s.size := by omega
      subst e
      have hfin : sb.data.toList = putF s.data.toList := by rw [HSB.out, List.take_of_length_le (by simp)]
      have HF := Hid.mk hfin
      clear hfin
      go_wp2_with fail
      go_ret
      exact ⟨ret_str1 HF.out, hbel⟩
end Bw
end Go.Proofs.YthdhhmflfdbkhaaGreatDoor
