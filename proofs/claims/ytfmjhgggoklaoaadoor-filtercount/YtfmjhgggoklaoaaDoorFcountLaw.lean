/- The law FilterCount: its walk. -/
import Derived.Test.YtfmjhgggoklaoaaDoorFilLeastP
import Derived.Test.YtfmjhgggoklaoaaDoorFilEqual
import Derived.Test.YtfmjhgggoklaoaaDoorFilLets
import Derived.Test.YtfmjhgggoklaoaaDoorFilLong
namespace Go.Proofs.YtfmjhgggoklaoaaDoor
open Go.ChangeShapes Go.WideShapes Go.ChangeAt Go.RowKit
namespace Bw
set_option maxHeartbeats 2000000 in
theorem lets1_any (x : Fn) (id g : Nat) (w : World) (hx : okN x) (hid : id ≤ 536870911) (hG : w.cell? ⟨g, 0, none⟩ = some (.int .i64 id)) :
    Calls Tryd.prog 21 #[x.f.val, .pointer (some ⟨g, 0, none⟩)] w fun e w' => e = .returned (.bool (hitN x false id)) ∧ Below w.heap.size w w' := by
  have hb := box1_below w x.f
  have hg := cell_kept hb hG
  have HL := Hid.mk (fun W => letsIn_any x id false false false 0 none 0 0 W hx hid)
  have HB := Hid.mk hb
  clear hx hid hG hb
  unfold box1 at hg HB
  unfold Fn.f Fl.val at *
  simp only at HB HL hg ⊢
  go_enter Tryd.func21, Tryd.ntmps21
  go_wp2_with fail
  refine (HL.out _).mono ?_
  rintro e w1 ⟨rfl, hb1⟩
  have HB1 := Hid.mk (bl2 HB.out hb1)
  clear hb1
  go_wp2_with fail
  go_ret
  exact ⟨rfl, HB1.out⟩
theorem any_f (l : List Fn) (lo : Bool) (id : Nat) : (l.map Fn.f).any (fun y => hitN y.n lo id) = anyN l lo id := by
  unfold anyN
  rw [List.any_map]
  congr 1
theorem count_step (p : Nat → Bool) (k : Nat) : (List.range (k + 1)).countP p = (List.range k).countP p + (if p k = true then 1 else 0) := by
  rw [List.range_succ, List.countP_append, List.countP_singleton]
set_option maxHeartbeats 4000000 in
set_option maxRecDepth 100000 in
theorem fcount_bad (a : Option Addr) (n c : Nat) (l : List Fl) (w : World) (hF : IsFils w a n c l) (hL : LastsAt w) (hE : chkFl l ≠ 0) :
    Calls Tryd.prog 5 #[.slice a n c] w fun e w' => e = .returned (.bool true) ∧ Below w.heap.size w w' := by
  have HA := Hid.mk (count_bad a n c l false w hF hL hE)
  have HR := Hid.mk (fun W (hb : Below w.heap.size w W) => checkFilters_any a n c l W (hF.kept hb))
  have HFI := Hid.mk (fun W (hb : Below w.heap.size w W) => filtered_any W (hL.kept hb))
  have he : (chkFl l != 0) = true := by simpa using hE
  clear hF hL hE
  generalize chkFl l = ec at *
  go_enter Tryd.func5, Tryd.ntmps5
  go_wp2_with fail
  refine HA.out.mono ?_
  rintro e w1 ⟨rfl, hb1⟩
  have HB1 := Hid.mk hb1
  clear hb1
  go_wp2_with fail
  refine (HR.out _ HB1.out).mono ?_
  rintro e w2 ⟨rfl, hb2⟩
  have HB2 := Hid.mk (bl2 HB1.out hb2)
  clear hb2
  go_wp2_with fail
  refine (HFI.out _ HB2.out).mono ?_
  rintro e w3 ⟨rfl, hb3⟩
  have HB3 := Hid.mk (bl2 HB2.out hb3)
  clear hb3
  go_wp2_with fail
  refine (HFI.out _ HB3.out).mono ?_
  rintro e w4 ⟨rfl, hb4⟩
  have HB4 := Hid.mk (bl2 HB3.out hb4)
  clear hb4
  go_wp2_with fail
  go_ret
  exact ⟨rfl, HB4.out⟩
set_option maxHeartbeats 8000000 in
set_option maxRecDepth 100000 in
theorem fcount_ok (a : Option Addr) (n c : Nat) (l : List Fn) (w : World) (hF : IsFils w a n c (l.map Fn.f)) (hL : LastsAt w) (hok : ∀ x ∈ l, okN x) (hn : n ≤ 16) :
    Calls Tryd.prog 5 #[.slice a n c] w fun e w' => e = .returned (.bool true) ∧ Below w.heap.size w w' := by
  obtain ⟨i0, hi, hz0, hz1, hz2⟩ := info_parts info_fil
  have hlen : l.length = n := by have := hF.len; simpa using this
  have HA := Hid.mk (count_ok a n c l false w hF hL hok hn)
  have hR := fun W (hb : Below w.heap.size w W) => checkFilters_any a n c _ W (hF.kept hb)
  rw [chk_ok hok (by omega)] at hR
  have HR := Hid.mk hR
  have HFI := Hid.mk (fun W (hb : Below w.heap.size w W) => filtered_any W (hL.kept hb))
  have HF := Hid.mk hF
  have HL := Hid.mk hL
  have HOK := Hid.mk hok
  have HLN := Hid.mk hlen
  have HLC := Hid.mk (long_count hok)
  have HC2 : Hid (∀ C, C = countN l false → C = (List.range 2048).countP (anyN l false)) := Hid.mk (fun C h => by rw [h]; rfl)
  have hcb := cntN_le false (anyN l false)
  obtain ⟨C, hC⟩ : ∃ C, C = countN l false := ⟨_, rfl⟩
  have hcb' : C ≤ 536870912 := by rw [hC]; exact hcb
  rw [← hC] at HA HLC
  have HCC := Hid.mk (HC2.out C hC)
  clear hF hL hok hR hlen hC hcb HC2
  go_enter Tryd.func5, Tryd.ntmps5
  go_wp2_with fail
  refine HA.out.mono ?_
  rintro e w1 ⟨rfl, hb1⟩
  have HB1 := Hid.mk hb1
  clear hb1 HA
  go_wp2_with fail
  refine (HR.out _ HB1.out).mono ?_
  rintro e w2 ⟨rfl, hb2⟩
  have HB2 := Hid.mk (bl2 HB1.out hb2)
  clear hb2 HB1 HR
  go_wp2_with fail
  refine (HFI.out _ HB2.out).mono ?_
  rintro e w3 ⟨rfl, hb3⟩
  have HB3 := Hid.mk (bl2 HB2.out hb3)
  have HF3 := Hid.mk (HF.out.kept HB3.out)
  have HL3 := Hid.mk (HL.out.kept HB3.out)
  clear hb3 HB2 HFI HF HL
  go_wp2_with fail
  go_loopw [6, 35] (fun s i wr => ∃ k q : Nat, k ≤ 2048 ∧ q ≤ k ∧ i = .int .i64 k ∧ s = .int .i64 q ∧ Hid (q = (List.range k).countP (anyN l false)) ∧ Hid (Below w3.heap.size w3 wr)) (fun _ i _ => 2048 - (intOf i).toNat)
  case atStart => exact ⟨0, 0, by omega, by omega, rfl, rfl, Hid.mk rfl, Hid.mk (Below.refl _ _)⟩
  case round =>
    obtain ⟨k, q, hk, hq, rfl, rfl, HQ, HB⟩ := hrel
    by_cases hlt : k < 2048
    · have hlt' : (k : Int) < 2048 := by omega
      have hb4 := boxv_below wr (.int .i64 (k : Int)) 3
      have hcell := cell_new wr (.int .i64 (k : Int)) 3
      have HB4 := Hid.mk (bl2 HB.out hb4)
      have hcf := containsFunc_any 21 #[.pointer (some ⟨wr.heap.size, 0, none⟩)] (enters_of Tryd.func21 (by kernel_rfl) rfl) (fun y => hitN y.n false k) a n c (l.map Fn.f) _ (HF3.out.kept HB4.out) (by
        intro W y hb hy
        obtain ⟨z, hz, rfl⟩ := List.mem_map.1 hy
        rw [f_n]
        exact lets1_any z k wr.heap.size W (HOK.out z hz) (by omega) (cell_kept hb hcell))
      rw [any_f] at hcf
      have HST := Hid.mk (count_step (anyN l false) k)
      clear hb4 hcell
      cases hany : anyN l false k
      · rw [hany] at hcf HST
        have HCF := Hid.mk hcf
        clear hcf hany
        go_wp2_with fail
        refine HCF.out.mono ?_
        rintro e w5 ⟨rfl, hb5⟩
        have HB5 := Hid.mk (bl2 HB4.out hb5)
        clear hb5
        go_wp2_with fail
        go_roundw
        case rel => exact ⟨k + 1, q, by omega, by omega, by go_num, rfl, Hid.mk (by rw [HST.out, HQ.out]; rfl), HB5⟩
        case measure => simp [intOf]; omega
      · rw [hany] at hcf HST
        have HCF := Hid.mk hcf
        clear hcf hany
        go_wp2_with fail
        refine HCF.out.mono ?_
        rintro e w5 ⟨rfl, hb5⟩
        have HB5 := Hid.mk (bl2 HB4.out hb5)
        clear hb5
        go_wp2_with fail
        go_roundw
        case rel => exact ⟨k + 1, q + 1, by omega, by omega, by go_num, by go_num, Hid.mk (by rw [HST.out, HQ.out]; rfl), HB5⟩
        case measure => simp [intOf]; omega
    · have e : k = 2048 := by omega
      have hqc : q = C := by rw [HQ.out, e, HCC.out]
      subst hqc
      subst e
      rw [show ((2048 : Nat) : Int) = 2048 from rfl]
      clear hk hq hlt
      have HB5 := Hid.mk (bl2 HB3.out HB.out)
      have HF5 := Hid.mk (HF3.out.kept HB.out)
      have HL5 := Hid.mk (HL3.out.kept HB.out)
      obtain ⟨wz, hwz⟩ : ∃ wz, wz = wr := ⟨_, rfl⟩
      rw [← hwz] at HB5 HF5 HL5 ⊢
      clear hwz HB HQ HB3 HF3 HL3
      go_wp2_with fail
      go_loopw [8, 53] (fun v i wr => ∃ j : Nat, j ≤ n ∧ i = .int .i64 j ∧ Hid (wr.ownsRow wz.heap.size 34 3 v (longK l j).length (filC (longK l j))) ∧ Hid (Below wz.heap.size wz wr)) (fun _ i _ => n - (intOf i).toNat)
      case atStart => exact ⟨0, Nat.zero_le _, rfl, Hid.mk (World.ownsRow_nil _ _ _ _), Hid.mk (Below.refl _ _)⟩
      case round =>
        obtain ⟨j, hj, rfl, HO, HBj⟩ := hrel
        by_cases hjl : j < n
        · have hjl' : (j : Int) < (n : Int) := by omega
          obtain ⟨X, rfl⟩ := fils_some HF5.out hjl
          obtain ⟨c0, c1, c2⟩ := fils_at (HF5.out.kept HBj.out) hjl
          have HOX := Hid.mk (getD_ok HOK.out j)
          have HK : Hid (longK l (j + 1) = longK l j ++ (if (l.getD j ⟨0, 0, false⟩).lo = true then [] else [longF (l.getD j ⟨0, 0, false⟩)])) := Hid.mk rfl
          have hlk := longK_len l j
          obtain ⟨x, hx⟩ : ∃ x, x = l.getD j ⟨0, 0, false⟩ := ⟨_, rfl⟩
          rw [map_getD l j (by rw [HLN.out]; exact hjl), ← hx] at c0 c1 c2
          rw [← hx] at HK HOX
          have hb6 := box1_below wr x.f
          have HB6 := Hid.mk (bl2 HBj.out hb6)
          have HO6 := Hid.mk (ownsRow_below HO.out hb6)
          have HXL := Hid.mk (ok_lt HOX.out)
          have HOR := Hid.mk (or_i64 x.m 536868864 (by have := HXL.out; omega) (by omega))
          unfold box1 at HB6 HO6
          unfold Fn.f at c0 c1 c2 HB6 HO6
          simp only at c0 c1 c2 HB6 HO6
          obtain ⟨xw, xm, xl⟩ := x
          simp only [Int.cast_ofNat_Int] at c0 c1 c2 HB6 HO6 HK HOR
          clear hx hb6 HOX HXL
          cases xl
          · have hm := HK.out
            simp only [Bool.false_eq_true, if_false] at hm
            have HM1 := Hid.mk hm
            have hlk' : (longK l j).length ≤ 16 := by omega
            clear hm HK
            go_wp2_with (at_builtin; refine wpList_append_own _ rfl (.tmp 60) (.tmp 67) 22 rfl wz.heap.size 34 i0 (.agg #[.int .i64 0, .int .i64 0, .bool false]) 3 24 Tryd.underlying22 hi hz0 hz1 hz2 rfl (by decide) _ _ _ rfl (HO6.out.alloc _) ⟨wr.heap.size + 1, 0, none⟩ 1 1 [Value.int .i64 xw, Value.int .i64 (bits .or .i64 (xm : Int) 536868864), Value.bool true] rfl rfl (row3_at _ _ (by simp) _ _ _ _) (by intro u hu; simp at hu; rcases hu with rfl | rfl | rfl <;> rfl) (by unfold maxLen; omega) (by omega) (by have := HB6.out.size; simp at this; simp; omega) ?_; intro v5 w5 hown5 hgrow5 _)
            have hB7 : Below wz.heap.size wz w5 := Below.grown (HB6.out.alloc HB6.out.size _) hgrow5 (by have := HB6.out.size; simp at this; simp; omega) (fun q hq => (HO6.out.lt q hq).1)
            have hown6 := hown5
            rw [HOR.out, ← show filC [longF ⟨xw, xm, false⟩] = [Value.int .i64 (xw : Int), .int .i64 ((xm ||| 536868864 : Nat) : Int), .bool true] from filC_one (longF ⟨xw, xm, false⟩), ← filC_append, ← HM1.out, show (longK l j).length + 1 = (longK l (j + 1)).length by rw [HM1.out]; simp] at hown6
            have HO7 := Hid.mk hown6
            have HB7 := Hid.mk hB7
            clear hown5 hown6 hB7 hgrow5
            go_roundw
            case rel => exact ⟨j + 1, by omega, by go_num, HO7, HB7⟩
            case measure => simp [intOf]; omega
          · have hm := HK.out
            simp only [if_true, List.append_nil] at hm
            have HM1 := Hid.mk hm
            clear hm HK
            go_wp2_with fail
            go_roundw
            case rel => exact ⟨j + 1, by omega, by go_num, by rw [HM1.out]; exact HO6, HB6⟩
            case measure => simp [intOf]; omega
        · have e : j = n := by omega
          have hO := HO.out
          rw [e, ← HLN.out] at hO
          obtain ⟨a2, cap2, hv2, hF2⟩ := fils_of hO
          have hll := longK_len l l.length
          obtain ⟨M, hM⟩ : ∃ M, M = (longK l l.length).length := ⟨_, rfl⟩
          have hM16 : M ≤ 16 := by rw [hM]; have := HLN.out; omega
          rw [← hM] at hv2 hF2
          have hcn := count_ok a2 M cap2 (longK l l.length) true wr hF2 (HL5.out.kept HBj.out) (longK_ok HOK.out _) hM16
          rw [HLC.out] at hcn
          have HCN := Hid.mk hcn
          have HB7 := Hid.mk (bl2 HB5.out HBj.out)
          subst hv2
          clear hO hF2 hll hM hcn e
          go_wp2_with fail
          refine HCN.out.mono ?_
          rintro e w8 ⟨rfl, hb8⟩
          have HB8 := Hid.mk (bl2 HB7.out hb8)
          clear hb8
          go_wp2_with fail
          go_ret
          exact ⟨rfl, HB8.out⟩
end Bw
end Go.Proofs.YtfmjhgggoklaoaaDoor
