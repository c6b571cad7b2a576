/- What omnibusbig's add answers: the words of the sum. -/
import Derived.Test.YtopoogdoepdedaaDoorWordsCell
namespace Go.Proofs.YtopoogdoepdedaaDoor
open Go.ChangeShapes Go.WideShapes Go.ChangeAt Go.RowKit
namespace Ww
open Wm
set_option maxHeartbeats 8000000 in
theorem add_any (va vb : Value) (xs ys : List Nat) (w : World) (ha : IsW w va xs) (hb : IsW w vb ys) (hla : xs.length ≤ 10000) (hlb : ys.length ≤ 10000) :
    Calls Tryd.prog 50 #[va, vb] w fun e w' => ∃ v' rs, e = .returned v' ∧ IsW w' v' rs ∧ valW rs = valW xs + valW ys ∧ trimW rs ∧ rs.length ≤ max xs.length ys.length + 1 ∧ Below w.heap.size w w' := by
  obtain ⟨a, ca, rfl, hca, hma, hna, hcea, hoa⟩ := ha
  obtain ⟨b, cb, rfl, hcb, hmb, hnb, hceb, hob⟩ := hb
  have HCA := Hid.mk hcea
  have HCB := Hid.mk hceb
  have HNA := Hid.mk hna
  have HNB := Hid.mk hnb
  have HOA := Hid.mk hoa
  have HOB := Hid.mk hob
  obtain ⟨nA, hnA⟩ : ∃ n, n = xs.length := ⟨_, rfl⟩
  obtain ⟨nB, hnB⟩ : ∃ n, n = ys.length := ⟨_, rfl⟩
  rw [← hnA] at hla ⊢
  rw [← hnB] at hlb ⊢
  have HLA := Hid.mk hnA
  have HLB := Hid.mk hnB
  obtain ⟨i0, hi, hz0, hz1, hz2⟩ := info_parts info_u32
  clear hcea hceb hna hnb hoa hob hnA hnB hca hcb hma hmb
  go_enter Tryd.func50, Tryd.ntmps50
  by_cases hs : nA < nB
  · go_wp2_with (at_make; refine wpList_make_full _ rfl (.tmp 17) (.tmp 17) 56 rfl w.heap.size 99 i0 (.int .u32 0) 1 Tryd.underlying56 hi hz0 hz1 .i64 .i64 _ _ (nB + 1) rfl rfl (by omega) (by omega) (by rw [hz2]; omega) (by unfold maxLen; omega) (Nat.le_refl _) ?_; intro w2 hown hgrow)
    have hown0 : w2.ownsRow w.heap.size 99 1 (.slice (some ⟨w.heap.size, 0, none⟩) (nB + 1) (nB + 1)) (nB + 1) (cellsW ([] ++ List.replicate (nB + 1 - 0) 0)) := by
      rw [cellsW_rep, ← toList_madeCells_one]
      rw [Nat.mul_one] at hown
      exact hown
    have hb2 : Below w.heap.size w w2 := Below.grown (Below.refl _ _) hgrow (Nat.le_refl _) (fun q hq => by cases hq)
    clear hown hgrow hi hz0 hz1 hz2
    go_wp2_with fail
    go_loopw [6, 7] (fun c i wr => ∃ (k cc : Nat) (zs : List Nat), k ≤ nB ∧ i = .int .i64 k ∧ c = .int .u64 cc ∧ cc ≤ 1 ∧ zs.length = k ∧ okW zs ∧ valW zs + 2 ^ (32 * k) * cc = valW (ys.take k) + valW (xs.take k) ∧
        wr.ownsRow w.heap.size 99 1 (.slice (some ⟨w.heap.size, 0, none⟩) (nB + 1) (nB + 1)) (nB + 1) (cellsW (zs ++ List.replicate (nB + 1 - k) 0)) ∧ Below w.heap.size w wr) (fun _ i _ => nB - (intOf i).toNat)
    case atStart => exact ⟨0, 0, [], Nat.zero_le _, rfl, rfl, by omega, rfl, (fun x hx => by cases hx), by simp [valW], hown0, hb2⟩
    case round =>
      clear hown0 hb2
      obtain ⟨k, cc, zs, hk, rfl, rfl, hcc, hzl, hzo, hval, hown, hbel⟩ := hrel
      have HZL := Hid.mk hzl
      have HZO := Hid.mk hzo
      have HV := Hid.mk hval
      clear hzl hzo hval
      by_cases hlt : k < nB
      · cases b with
        | none => exact absurd (HNB.out rfl) (by have := HLB.out; omega)
        | some p =>
          have hcx := Bw.cell_kept hbel (HCB.out p rfl k (by have := HLB.out; omega))
          have hxk := okW_getD HOB.out k
          obtain ⟨xk, hxE⟩ : ∃ xk, xk = ys.getD k 0 := ⟨_, rfl⟩
          rw [← hxE] at hcx hxk
          have HXE := Hid.mk hxE
          clear hxE
          have hxk' : (xk : Int) ≤ 4294967295 := by omega
          have hlt' : (k : Int) < (nB : Int) := by omega
          have hcc' : (cc : Int) ≤ 1 := by omega
          have hc3 := hown.cellAt k (by omega)
          have hf3 := hown.frozenAt k
          rw [cellsW_at zs (nB + 1) k HZL.out (by omega)] at hc3
          by_cases hly : k < nA
          · cases a with
            | none => exact absurd (HNA.out rfl) (by have := HLA.out; omega)
            | some q =>
              have hcy := Bw.cell_kept hbel (HCA.out q rfl k (by have := HLA.out; omega))
              have hyk := okW_getD HOA.out k
              obtain ⟨yk, hyE⟩ : ∃ yk, yk = xs.getD k 0 := ⟨_, rfl⟩
              rw [← hyE] at hcy hyk
              have HYE := Hid.mk hyE
              clear hyE
              have hyk' : (yk : Int) ≤ 4294967295 := by omega
              have hly' : (k : Int) < (nA : Int) := by omega
              have hst := hown.stored k (.int .u32 (((cc : Int) + xk + yk) % 4294967296))
              rw [show ((cc : Int) + xk + yk) % 4294967296 = (((cc + xk + yk) % 4294967296 : Nat) : Int) by omega, cellsW_set zs (nB + 1) k _ HZL.out (by omega), show (((cc + xk + yk) % 4294967296 : Nat) : Int) = ((cc : Int) + xk + yk) % 4294967296 by omega] at hst
              have HST := Hid.mk hst
              clear hst hown
              go_wp2_with fail
              go_roundw
              case rel => exact ⟨k + 1, (cc + xk + yk) / 4294967296, zs ++ [(cc + xk + yk) % 4294967296], by omega, by go_num, by go_num, by omega, (by rw [List.length_append, HZL.out]; rfl), okW_append HZO.out (okW_one (by omega)), add_step HV.out HZL.out HXE.out HYE.out (by have := HLB.out; omega) (by have := HLA.out; omega), HST.out.1, hbel.grown HST.out.2 hbel.size (fun q hq => by cases hq; exact Nat.le_refl _)⟩
              case measure => simp [intOf]; omega
          · have hly' : (nA : Int) ≤ (k : Int) := by omega
            have hst := hown.stored k (.int .u32 (((cc : Int) + xk) % 4294967296))
            rw [show ((cc : Int) + xk) % 4294967296 = (((cc + xk) % 4294967296 : Nat) : Int) by omega, cellsW_set zs (nB + 1) k _ HZL.out (by omega), show (((cc + xk) % 4294967296 : Nat) : Int) = ((cc : Int) + xk) % 4294967296 by omega] at hst
            have HST := Hid.mk hst
            clear hst hown
            go_wp2_with fail
            go_roundw
            case rel => exact ⟨k + 1, (cc + xk) / 4294967296, zs ++ [(cc + xk) % 4294967296], by omega, by go_num, by go_num, by omega, (by rw [List.length_append, HZL.out]; rfl), okW_append HZO.out (okW_one (by omega)), add_step1 HV.out HZL.out HXE.out (by have := HLB.out; omega) (by have := HLA.out; omega), HST.out.1, hbel.grown HST.out.2 hbel.size (fun q hq => by cases hq; exact Nat.le_refl _)⟩
            case measure => simp [intOf]; omega
      · have e : k = nB := by omega
        subst e
        have hcc' : (cc : Int) ≤ 1 := by omega
        have hc3 := hown.cellAt k (by omega)
        have hf3 := hown.frozenAt k
        rw [cellsW_at zs (k + 1) k HZL.out (by omega)] at hc3
        have hst := hown.stored k (.int .u32 (cc : Int))
        rw [cellsW_set zs (k + 1) k _ HZL.out (by omega), Nat.sub_self, List.replicate_zero, List.append_nil] at hst
        have HST := Hid.mk hst
        clear hst hown
        go_wp2_with fail
        refine (trim_any _ (zs ++ [cc]) _ (isW_own HST.out.1 (by rw [List.length_append, HZL.out]; rfl) (by unfold maxLen; omega) (okW_append HZO.out (okW_one (by omega)))) (by rw [List.length_append, HZL.out]; simp; omega)).mono ?_
        rintro e w3 ⟨v', rs, rfl, hr1, hr2, hr3, hr4, rfl⟩
        have hb3 := hbel.grown HST.out.2 hbel.size (fun q hq => by cases hq; exact Nat.le_refl _)
        have hvv : valW rs = valW xs + valW ys := by
          have hv := HV.out
          have hX := HLB.out
          have hY := HLA.out
          rw [List.take_of_length_le (by omega), List.take_of_length_le (by omega)] at hv
          rw [hr2, valW_snoc, HZL.out, hv]; omega
        have HVV := Hid.mk hvv
        clear hvv HST hr2
        go_wp2_with fail
        go_ret
        exact ⟨_, rs, rfl, hr1, HVV.out, hr3, by rw [List.length_append, HZL.out] at hr4; simp at hr4; omega, hb3⟩
  · go_wp2_with (at_make; refine wpList_make_full _ rfl (.tmp 17) (.tmp 17) 56 rfl w.heap.size 99 i0 (.int .u32 0) 1 Tryd.underlying56 hi hz0 hz1 .i64 .i64 _ _ (nA + 1) rfl rfl (by omega) (by omega) (by rw [hz2]; omega) (by unfold maxLen; omega) (Nat.le_refl _) ?_; intro w2 hown hgrow)
    have hown0 : w2.ownsRow w.heap.size 99 1 (.slice (some ⟨w.heap.size, 0, none⟩) (nA + 1) (nA + 1)) (nA + 1) (cellsW ([] ++ List.replicate (nA + 1 - 0) 0)) := by
      rw [cellsW_rep, ← toList_madeCells_one]
      rw [Nat.mul_one] at hown
      exact hown
    have hb2 : Below w.heap.size w w2 := Below.grown (Below.refl _ _) hgrow (Nat.le_refl _) (fun q hq => by cases hq)
    clear hown hgrow hi hz0 hz1 hz2
    go_wp2_with fail
    go_loopw [6, 7] (fun c i wr => ∃ (k cc : Nat) (zs : List Nat), k ≤ nA ∧ i = .int .i64 k ∧ c = .int .u64 cc ∧ cc ≤ 1 ∧ zs.length = k ∧ okW zs ∧ valW zs + 2 ^ (32 * k) * cc = valW (xs.take k) + valW (ys.take k) ∧
        wr.ownsRow w.heap.size 99 1 (.slice (some ⟨w.heap.size, 0, none⟩) (nA + 1) (nA + 1)) (nA + 1) (cellsW (zs ++ List.replicate (nA + 1 - k) 0)) ∧ Below w.heap.size w wr) (fun _ i _ => nA - (intOf i).toNat)
    case atStart => exact ⟨0, 0, [], Nat.zero_le _, rfl, rfl, by omega, rfl, (fun x hx => by cases hx), by simp [valW], hown0, hb2⟩
    case round =>
      clear hown0 hb2
      obtain ⟨k, cc, zs, hk, rfl, rfl, hcc, hzl, hzo, hval, hown, hbel⟩ := hrel
      have HZL := Hid.mk hzl
      have HZO := Hid.mk hzo
      have HV := Hid.mk hval
      clear hzl hzo hval
      by_cases hlt : k < nA
      · cases a with
        | none => exact absurd (HNA.out rfl) (by have := HLA.out; omega)
        | some p =>
          have hcx := Bw.cell_kept hbel (HCA.out p rfl k (by have := HLA.out; omega))
          have hxk := okW_getD HOA.out k
          obtain ⟨xk, hxE⟩ : ∃ xk, xk = xs.getD k 0 := ⟨_, rfl⟩
          rw [← hxE] at hcx hxk
          have HXE := Hid.mk hxE
          clear hxE
          have hxk' : (xk : Int) ≤ 4294967295 := by omega
          have hlt' : (k : Int) < (nA : Int) := by omega
          have hcc' : (cc : Int) ≤ 1 := by omega
          have hc3 := hown.cellAt k (by omega)
          have hf3 := hown.frozenAt k
          rw [cellsW_at zs (nA + 1) k HZL.out (by omega)] at hc3
          by_cases hly : k < nB
          · cases b with
            | none => exact absurd (HNB.out rfl) (by have := HLB.out; omega)
            | some q =>
              have hcy := Bw.cell_kept hbel (HCB.out q rfl k (by have := HLB.out; omega))
              have hyk := okW_getD HOB.out k
              obtain ⟨yk, hyE⟩ : ∃ yk, yk = ys.getD k 0 := ⟨_, rfl⟩
              rw [← hyE] at hcy hyk
              have HYE := Hid.mk hyE
              clear hyE
              have hyk' : (yk : Int) ≤ 4294967295 := by omega
              have hly' : (k : Int) < (nB : Int) := by omega
              have hst := hown.stored k (.int .u32 (((cc : Int) + xk + yk) % 4294967296))
              rw [show ((cc : Int) + xk + yk) % 4294967296 = (((cc + xk + yk) % 4294967296 : Nat) : Int) by omega, cellsW_set zs (nA + 1) k _ HZL.out (by omega), show (((cc + xk + yk) % 4294967296 : Nat) : Int) = ((cc : Int) + xk + yk) % 4294967296 by omega] at hst
              have HST := Hid.mk hst
              clear hst hown
              go_wp2_with fail
              go_roundw
              case rel => exact ⟨k + 1, (cc + xk + yk) / 4294967296, zs ++ [(cc + xk + yk) % 4294967296], by omega, by go_num, by go_num, by omega, (by rw [List.length_append, HZL.out]; rfl), okW_append HZO.out (okW_one (by omega)), add_step HV.out HZL.out HXE.out HYE.out (by have := HLA.out; omega) (by have := HLB.out; omega), HST.out.1, hbel.grown HST.out.2 hbel.size (fun q hq => by cases hq; exact Nat.le_refl _)⟩
              case measure => simp [intOf]; omega
          · have hly' : (nB : Int) ≤ (k : Int) := by omega
            have hst := hown.stored k (.int .u32 (((cc : Int) + xk) % 4294967296))
            rw [show ((cc : Int) + xk) % 4294967296 = (((cc + xk) % 4294967296 : Nat) : Int) by omega, cellsW_set zs (nA + 1) k _ HZL.out (by omega), show (((cc + xk) % 4294967296 : Nat) : Int) = ((cc : Int) + xk) % 4294967296 by omega] at hst
            have HST := Hid.mk hst
            clear hst hown
            go_wp2_with fail
            go_roundw
            case rel => exact ⟨k + 1, (cc + xk) / 4294967296, zs ++ [(cc + xk) % 4294967296], by omega, by go_num, by go_num, by omega, (by rw [List.length_append, HZL.out]; rfl), okW_append HZO.out (okW_one (by omega)), add_step1 HV.out HZL.out HXE.out (by have := HLA.out; omega) (by have := HLB.out; omega), HST.out.1, hbel.grown HST.out.2 hbel.size (fun q hq => by cases hq; exact Nat.le_refl _)⟩
            case measure => simp [intOf]; omega
      · have e : k = nA := by omega
        subst e
        have hcc' : (cc : Int) ≤ 1 := by omega
        have hc3 := hown.cellAt k (by omega)
        have hf3 := hown.frozenAt k
        rw [cellsW_at zs (k + 1) k HZL.out (by omega)] at hc3
        have hst := hown.stored k (.int .u32 (cc : Int))
        rw [cellsW_set zs (k + 1) k _ HZL.out (by omega), Nat.sub_self, List.replicate_zero, List.append_nil] at hst
        have HST := Hid.mk hst
        clear hst hown
        go_wp2_with fail
        refine (trim_any _ (zs ++ [cc]) _ (isW_own HST.out.1 (by rw [List.length_append, HZL.out]; rfl) (by unfold maxLen; omega) (okW_append HZO.out (okW_one (by omega)))) (by rw [List.length_append, HZL.out]; simp; omega)).mono ?_
        rintro e w3 ⟨v', rs, rfl, hr1, hr2, hr3, hr4, rfl⟩
        have hb3 := hbel.grown HST.out.2 hbel.size (fun q hq => by cases hq; exact Nat.le_refl _)
        have hvv : valW rs = valW xs + valW ys := by
          have hv := HV.out
          have hX := HLA.out
          have hY := HLB.out
          rw [List.take_of_length_le (by omega), List.take_of_length_le (by omega)] at hv
          rw [hr2, valW_snoc, HZL.out, hv]
        have HVV := Hid.mk hvv
        clear hvv HST hr2
        go_wp2_with fail
        go_ret
        exact ⟨_, rs, rfl, hr1, HVV.out, hr3, by rw [List.length_append, HZL.out] at hr4; simp at hr4; omega, hb3⟩
end Ww
end Go.Proofs.YtopoogdoepdedaaDoor
