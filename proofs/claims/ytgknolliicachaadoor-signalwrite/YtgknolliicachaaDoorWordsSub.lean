/- What omnibusbig's sub answers: the words of the difference. -/
import Derived.Test.YtgknolliicachaaDoorWordsMore
namespace Go.Proofs.YtgknolliicachaaDoor
open Go.ChangeShapes Go.WideShapes Go.ChangeAt Go.RowKit
namespace Ww
open Wm
theorem sub_step {zs xs ys : List Nat} {k cc xk yk wk c2 : Nat} (hv : valW (xs.take k) + 2 ^ (32 * k) * cc = valW zs + valW (ys.take k)) (hz : zs.length = k) (hx : xk = xs.getD k 0) (hk : k < xs.length) (hy : valW (ys.take (k + 1)) = valW (ys.take k) + 2 ^ (32 * k) * yk) (hw : xk + 4294967296 * c2 = wk + yk + cc) :
    valW (xs.take (k + 1)) + 2 ^ (32 * (k + 1)) * c2 = valW (zs ++ [wk]) + valW (ys.take (k + 1)) := by
  rw [valW_snoc, hz, take_snocN xs k hk, valW_snoc, List.length_take, Nat.min_eq_left (by omega), ← hx, pow32, hy]
  have h1 : 2 ^ (32 * k) * (xk + 4294967296 * c2) = 2 ^ (32 * k) * (wk + yk + cc) := by rw [hw]
  rw [Nat.mul_add, Nat.mul_add, Nat.mul_add, ← Nat.mul_assoc] at h1
  omega
theorem take_val (ys : List Nat) (k : Nat) : valW (ys.take (k + 1)) = valW (ys.take k) + 2 ^ (32 * k) * ys.getD k 0 := by
  by_cases h : k < ys.length
  · rw [take_snocN ys k h, valW_snoc, List.length_take, Nat.min_eq_left (by omega)]
  · rw [take_more ys k (by omega)]
    simp [List.getD, List.getElem?_eq_none (Nat.le_of_not_lt h)]
set_option maxHeartbeats 8000000 in
set_option maxRecDepth 100000 in
theorem sub_any (va vb : Value) (xs ys : List Nat) (w : World) (ha : IsW w va xs) (hb : IsW w vb ys) (hla : xs.length ≤ 10000) (hlb : ys.length ≤ xs.length) (hle : valW ys ≤ valW xs) :
    Calls Tryd.prog 77 #[va, vb] w fun e w' => ∃ v' rs, e = .returned v' ∧ IsW w' v' rs ∧ valW rs = valW xs - valW ys ∧ trimW rs ∧ Below w.heap.size w w' := by
  obtain ⟨a, ca, rfl, hca, hma, hna, hcea, hoa⟩ := ha
  obtain ⟨b, cb, rfl, hcb, hmb, hnb, hceb, hob⟩ := hb
  have HCA := Hid.mk hcea
  have HCB := Hid.mk hceb
  have HNA := Hid.mk hna
  have HNB := Hid.mk hnb
  have HOA := Hid.mk hoa
  have HOB := Hid.mk hob
  have HLE := Hid.mk hle
  obtain ⟨nA, hnA⟩ : ∃ n, n = xs.length := ⟨_, rfl⟩
  obtain ⟨nB, hnB⟩ : ∃ n, n = ys.length := ⟨_, rfl⟩
  rw [← hnA] at hla hlb ⊢
  rw [← hnB] at hlb ⊢
  have HLA := Hid.mk hnA
  have HLB := Hid.mk hnB
  obtain ⟨i0, hi, hz0, hz1, hz2⟩ := info_parts info_u32
  clear hcea hceb hna hnb hoa hob hnA hnB hca hcb hma hmb hle
  go_enter Tryd.func77, Tryd.ntmps77
  go_wp2_with (at_make; refine wpList_make_full _ rfl (.tmp 10) (.tmp 10) 66 rfl w.heap.size 99 i0 (.int .u32 0) 1 Tryd.underlying66 hi hz0 hz1 .i64 .i64 _ _ nA rfl rfl (by omega) (by omega) (by rw [hz2]; omega) (by unfold maxLen; omega) (Nat.le_refl _) ?_; intro w2 hown hgrow)
  have hown0 : w2.ownsRow w.heap.size 99 1 (.slice (some ⟨w.heap.size, 0, none⟩) nA nA) nA (cellsW ([] ++ List.replicate (nA - 0) 0)) := by
    rw [cellsW_rep, ← toList_madeCells_one]
    rw [Nat.mul_one] at hown
    exact hown
  have hb2 : Below w.heap.size w w2 := Below.grown (Below.refl _ _) hgrow (Nat.le_refl _) (fun q hq => by cases hq)
  clear hown hgrow hi hz0 hz1 hz2
  go_wp2_with fail
  go_loopw [6, 7] (fun c i wr => ∃ (k cc : Nat) (zs : List Nat), k ≤ nA ∧ i = .int .i64 k ∧ c = .int .u64 cc ∧ cc ≤ 1 ∧ zs.length = k ∧ okW zs ∧ valW (xs.take k) + 2 ^ (32 * k) * cc = valW zs + valW (ys.take k) ∧
      wr.ownsRow w.heap.size 99 1 (.slice (some ⟨w.heap.size, 0, none⟩) nA nA) nA (cellsW (zs ++ List.replicate (nA - k) 0)) ∧ Below w.heap.size w wr) (fun _ i _ => nA - (intOf i).toNat)
  case atStart => exact ⟨0, 0, [], Nat.zero_le _, rfl, rfl, by omega, rfl, (fun x hx => by cases hx), by simp [valW], hown0, hb2⟩
  case round =>
    clear hown0 hb2
    obtain ⟨k, cc, zs, hk, rfl, rfl, hcc, hzl, hzo, hval, hown, hbel⟩ := hrel
    have HZL := Hid.mk hzl
    have HZO := Hid.mk hzo
    have HV := Hid.mk hval
    clear hzl hzo hval
    by_cases hlt : k < nA
    · cases a with
      | none => exact absurd (HNA.out rfl) (by have := HLA.out; omega)
      | some p =>
        have hcx := Bw.cell_kept hbel (HCA.out p rfl k (by have := HLA.out; omega))
        have hxk := okW_getD HOA.out k
        obtain ⟨xk, hxE⟩ : ∃ xk, xk = xs.getD k 0 := ⟨_, rfl⟩
        rw [← hxE] at hcx hxk
        have HXE := Hid.mk hxE
        clear hxE
        have hxk' : (xk : Int) ≤ 4294967295 := by omega
        have hlt' : (k : Int) < (nA : Int) := by omega
        have hcc' : (cc : Int) ≤ 1 := by omega
        have hc3 := hown.cellAt k (by omega)
        have hf3 := hown.frozenAt k
        rw [cellsW_at zs nA k HZL.out (by omega)] at hc3
        have hyk := okW_getD HOB.out k
        have HYV := Hid.mk (take_val ys k)
        obtain ⟨yk, hyE⟩ : ∃ yk, yk = ys.getD k 0 := ⟨_, rfl⟩
        rw [← hyE] at hyk HYV
        have HYE := Hid.mk hyE
        clear hyE
        obtain ⟨D1, hD1⟩ : ∃ D1 : Int, D1 = ((xk : Int) - (cc : Int)) % 18446744073709551616 := ⟨_, rfl⟩
        obtain ⟨D2, hD2⟩ : ∃ D2 : Int, D2 = (D1 - (yk : Int)) % 18446744073709551616 := ⟨_, rfl⟩
        obtain ⟨wk, c2, hwk, hc2, hw1, hw2, hw3⟩ : ∃ wk c2 : Nat, wk < 4294967296 ∧ c2 ≤ 1 ∧ xk + 4294967296 * c2 = wk + yk + cc ∧ D2 % 4294967296 = (wk : Int) ∧ D2 / 9223372036854775808 = (c2 : Int) := by
          by_cases hs : yk + cc ≤ xk
          · exact ⟨xk - yk - cc, 0, by omega, by omega, by omega, by omega, by omega⟩
          · exact ⟨xk + 4294967296 - yk - cc, 1, by omega, by omega, by omega, by omega, by omega⟩
        have e1 : IntKind.u64.wrap ((xk : Int) - (cc : Int)) = D1 := by rw [IntKind.wrap_u64, hD1]
        have hD1b : 0 ≤ D1 ∧ D1 ≤ 18446744073709551615 := by omega
        have hD2b : 0 ≤ D2 ∧ D2 ≤ 18446744073709551615 := by omega
        obtain ⟨d1a, d1b⟩ := hD1b
        obtain ⟨d2a, d2b⟩ := hD2b
        have hst := hown.stored k (.int .u32 (wk : Int))
        rw [cellsW_set zs nA k wk HZL.out (by omega)] at hst
        have HST := Hid.mk hst
        have HW1 := Hid.mk hw1
        clear hst hown hw1
        by_cases hly : k < nB
        · cases b with
          | none => exact absurd (HNB.out rfl) (by have := HLB.out; omega)
          | some q =>
            have hcy := Bw.cell_kept hbel (HCB.out q rfl k (by have := HLB.out; omega))
            rw [← HYE.out] at hcy
            have hyk' : (yk : Int) ≤ 4294967295 := by omega
            have hly' : (k : Int) < (nB : Int) := by omega
            have e2 : IntKind.u64.wrap (D1 - (yk : Int)) = D2 := by rw [IntKind.wrap_u64, hD2]
            clear hD1 hD2
            go_wp2_with fail
            go_roundw
            case rel => exact ⟨k + 1, c2, zs ++ [wk], by omega, by go_num, by go_num, hc2, (by rw [List.length_append, HZL.out]; rfl), okW_append HZO.out (okW_one (by omega)), sub_step HV.out HZL.out HXE.out (by have := HLA.out; omega) HYV.out HW1.out, HST.out.1, hbel.grown HST.out.2 hbel.size (fun q hq => by cases hq; exact Nat.le_refl _)⟩
            case measure => simp [intOf]; omega
        · have hly' : (nB : Int) ≤ (k : Int) := by omega
          have hy0 : yk = 0 := by rw [HYE.out]; simp [List.getD, List.getElem?_eq_none (show ys.length ≤ k by have := HLB.out; omega)]
          have hDD : D2 = D1 := by rw [hD2, hy0]; simp only [Int.natCast_zero, Int.sub_zero]; omega
          rw [hDD] at hw2 hw3
          clear hD1 hD2 hDD hy0 d2a d2b
          go_wp2_with fail
          go_roundw
          case rel => exact ⟨k + 1, c2, zs ++ [wk], by omega, by go_num, by go_num, hc2, (by rw [List.length_append, HZL.out]; rfl), okW_append HZO.out (okW_one (by omega)), sub_step HV.out HZL.out HXE.out (by have := HLA.out; omega) HYV.out HW1.out, HST.out.1, hbel.grown HST.out.2 hbel.size (fun q hq => by cases hq; exact Nat.le_refl _)⟩
          case measure => simp [intOf]; omega
    · have e : k = nA := by omega
      subst e
      rw [Nat.sub_self, List.replicate_zero, List.append_nil] at hown
      have HOW := Hid.mk (isW_own hown HZL.out (by unfold maxLen; omega) HZO.out)
      clear hown
      go_wp2_with fail
      refine (trim_any _ zs _ HOW.out (by rw [HZL.out]; omega)).mono ?_
      rintro e w3 ⟨v', rs, rfl, hr1, hr2, hr3, hr4, hw3⟩
      subst hw3
      have hvv : valW rs = valW xs - valW ys := by
        have hv := HV.out
        have hX := HLA.out
        have hY := HLB.out
        have hl := HLE.out
        have hzv := valW_lt zs HZO.out
        rw [HZL.out] at hzv
        rw [List.take_of_length_le (by omega), List.take_of_length_le (by omega)] at hv
        rw [hr2]
        have hc0 : cc = 0 := by
          rcases Nat.eq_zero_or_pos cc with h | h
          · exact h
          · exfalso
            have : 2 ^ (32 * k) * 1 ≤ 2 ^ (32 * k) * cc := Nat.mul_le_mul_left _ h
            omega
        rw [hc0] at hv
        omega
      have HVV := Hid.mk hvv
      clear hvv hr2
      go_wp2_with fail
      go_ret
      exact ⟨_, rs, rfl, hr1, HVV.out, hr3, hbel⟩
end Ww
end Go.Proofs.YtgknolliicachaaDoor
