/- What sched.ask answers. -/
import Derived.Test.YtnhnemmddgofnaaDoorS2
import Derived.Test.YtnhnemmddgofnaaDoorDlWorst
namespace Go.Proofs.YtnhnemmddgofnaaDoor
open Go.ChangeShapes Go.WideShapes Go.ChangeAt Go.RowKit
namespace Bw
open Sb (Ms)
set_option linter.unusedVariables false
theorem info_ms : (Tryd.prog.info? 73).map (fun i => (i.zero, i.size, i.bytes)) = some (some (.agg #[.int .i64 0, .int .i64 0]), 2, 16) := by kernel_rfl
theorem info_mss : (Tryd.prog.info? 71).map (fun i => (i.zero, i.size, i.bytes)) = some (some (.slice none 0 0), 1, 24) := by kernel_rfl
theorem zip_drop {l : List Tk} {fs : List Int} (h : fs.length = l.length) {k : Nat} (hk : k < l.length) : (l.zip fs).drop k = (l.getD k noT, fs.getD k 0) :: (l.zip fs).drop (k + 1) := by
  have h1 : k < (l.zip fs).length := by rw [List.length_zip]; omega
  rw [List.drop_eq_getElem_cons h1]
  congr 1
  simp [List.getD, hk, show k < fs.length by omega]
set_option maxHeartbeats 16000000 in
set_option maxRecDepth 100000 in
theorem ask_any (aT : Option Addr) (n cT : Nat) (l : List Tk) (aF : Option Addr) (cF : Nat) (fs : List Int) (b p : Nat) (a : Option Addr) (m c : Nat) (lt : List Int) (e : Nat) (w0 w : World)
    (hT : IsTks w0 aT n cT l) (hF : IsNs w0 aF n cF fs) (hok : ∀ x ∈ l, okT x = true) (hn : n ≤ 20) (hm : m ≤ 1000) (he : e ≤ 1000000) (hP : AkP w0 w b p a m) (hL : LtAt w b p a m c lt 0) (ho : Below w0.heap.size w0 w) :
    Calls Tryd.prog 18 #[.slice aT n cT, .slice aF n cF, ltV b p, .int .i64 e] w fun ex w' => ∃ vO, ex = .returned (.tuple #[vO, .int .i64 (Sb.runT lt e (l.zip fs) [] 1000 0).1]) ∧ ((Sb.runT lt e (l.zip fs) [] 1000 0).1 = 0 → OwnQ w' w.heap.size vO (Sb.runT lt e (l.zip fs) [] 1000 0).2) ∧ Below w0.heap.size w0 w' ∧ Tch [p] w w' := by
  have HT := Hid.mk hT
  have HF := Hid.mk hF
  have HOK := Hid.mk hok
  have HP := Hid.mk hP
  have HLN := Hid.mk hT.len
  have HFL := Hid.mk (hF.len.trans hT.len.symm)
  have HMM := Hid.mk hm
  have HE := Hid.mk he
  have HO0 := Hid.mk (AkO.start hP ho hL)
  have eg := enter_lt
  obtain ⟨i0, hi0, hz0, hz1, hz2⟩ := info_partsD info_ms
  obtain ⟨i1, hi1, hy0, hy1, hy2⟩ := info_partsD info_mss
  obtain ⟨Z, hZ⟩ : ∃ Z, Z = Sb.runT lt e (l.zip fs) [] 1000 0 := ⟨_, rfl⟩
  rw [← hZ]
  have HZ := Hid.mk hZ
  have heI : (e : Int) ≤ 1000000 := by omega
  clear hT hF hok hm he hP hL ho hZ
  unfold ltV
  go_enter Tryd.func18, Tryd.ntmps18
  go_wp2_with fail
  go_loopw [10, 11, 20] (fun s10 s11 s20 wr => ∃ (k room kk : Nat) (vO : Value) (M : List (List Ms)), k ≤ n ∧ M.length = k ∧ room ≤ 1000 ∧ vO = s10 ∧ s11 = .int .i64 room ∧ s20 = .int .i64 k ∧ Hid (Z = Sb.runT lt e ((l.zip fs).drop k) M room kk) ∧ Hid (AkO w0 w wr b p a m c lt kk vO M)) (fun _ _ i _ => n - (intOf i).toNat)
  case atStart => exact ⟨0, 1000, 0, _, [], Nat.zero_le _, rfl, Nat.le_refl _, rfl, rfl, rfl, HZ, HO0⟩
  case round =>
    obtain ⟨k, room, kk, vO, M, hk, hML, hroom, rfl, rfl, rfl, HA, HO⟩ := hrel
    rename World => wo
    by_cases hlt : k < n
    · have hlt' : (k : Int) < (n : Int) := by omega
      obtain ⟨x, rfl⟩ := HT.out.some hlt
      obtain ⟨y, rfl⟩ := HF.out.some hlt
      have HTo := Hid.mk (HT.out.kept HO.out.old)
      obtain ⟨c0, c1, c2, c3, c4⟩ := HTo.out.cell x rfl k hlt
      obtain ⟨r, hr⟩ : ∃ r, r = l.getD k noT := ⟨_, rfl⟩
      obtain ⟨f, hf⟩ : ∃ f, f = fs.getD k 0 := ⟨_, rfl⟩
      rw [← hr] at c0 c1 c2 c3 c4
      have hrok := HOK.out r (by rw [hr]; exact getD_memT (by rw [HLN.out]; exact hlt))
      obtain ⟨q1, q2, q3, q4, q5, q6, q7, -⟩ := okT_n hrok
      have hb1 := awD wo (tkC r)
      have HO1 := Hid.mk (HO.out.kept hb1)
      have HV := Hid.mk (TkAt.new wo r)
      have f0 := (HF.out.kept HO1.out.old).cell y rfl k hlt
      rw [← hf] at f0
      have HD : Hid (Z = if Sb.isTm f = true then Sb.runI r lt e (fun ms room k' => Sb.runT lt e ((l.zip fs).drop (k + 1)) (M ++ [ms]) room k') room [] f.toNat kk else (3, [])) := Hid.mk (by rw [HA.out, zip_drop HFL.out (by rw [HLN.out]; exact hlt), ← hr, ← hf, Sb.runT])
      have HIT := Hid.mk (istime_any f (wo.alloc (tkC r)))
      have HGP : Hid (wo.heap.size ≠ p ∧ wo.heap.size < (wo.alloc (tkC r)).heap.size ∧ w.heap.size ≤ (wo.alloc (tkC r)).heap.size) := Hid.mk ⟨by have := HP.out.p; have := HO.out.tch.size; omega, by rw [allocQ]; omega, by have := HO.out.tch.size; rw [allocQ]; omega⟩
      have HRE := Hid.mk hrok
      obtain ⟨T, hTN⟩ : ∃ T, T = tN r := ⟨_, rfl⟩
      rw [← hTN] at q3 q4 q6
      have HTN := Hid.mk hTN
      have q3' : 1 ≤ (T : Int) := by omega
      have q4' : (T : Int) ≤ 1000000 := by omega
      have q6' := q6
      clear hr hf hb1 hrok q1 q2 q5 q6 q7 hTN HTo
      obtain ⟨id, by_, ev, la, ji⟩ := r
      simp only at q6'
      subst q6'
      unfold tkC at HO1 HV HIT HGP f0
      simp only at c0 c1 c2 c3 c4 HO1 HV HIT HGP f0
      obtain ⟨g0, g1, g2, g3, g4⟩ := HV.out
      simp only at g0 g1 g2 g3 g4
      obtain ⟨W1, hW1⟩ : ∃ W1, W1 = wo.alloc (.cells #[.int .i64 id, .int .i64 by_, .int .i64 (T : Int), .int .i64 la, .int .i64 ji] 31) := ⟨_, rfl⟩
      go_wp2_with fail
      rw [← hW1] at HO1 HV HIT HGP f0 g0 g1 g2 g3 g4 ⊢
      clear hW1
      cases hq : Sb.isTm f with
      | false =>
        rw [hq] at HIT HD
        have HE3 : Hid (Z = (3, [])) := Hid.mk (by rw [HD.out, if_neg (by simp)])
        clear hq
        refine HIT.out.mono ?_
        rintro ex w1 ⟨rfl, rfl⟩
        go_wp2_with fail
        go_ret2
        refine ⟨.slice none 0 0, ?_, ?_, HO1.out.old, HO1.out.tch⟩
        · rw [HE3.out]; rfl
        · intro h; rw [HE3.out] at h; cases h
      | true =>
        rw [hq] at HIT HD
        have hfb := Sb.isTm_iff.1 hq
        obtain ⟨F, hF⟩ : ∃ F : Nat, f = F := ⟨f.toNat, by omega⟩
        subst hF
        obtain ⟨K, hK⟩ : ∃ K : List Ms → Nat → Nat → Sb.AR, K = fun ms room k' => Sb.runT lt e ((l.zip fs).drop (k + 1)) (M ++ [ms]) room k' := ⟨_, rfl⟩
        have HDI : Hid (Z = Sb.runI ⟨id, by_, T, la, ji⟩ lt e K room [] F kk) := Hid.mk (by rw [HD.out, if_pos rfl, Int.toNat_natCast, hK])
        have HKE := Hid.mk hK
        clear hK
        have hFb : (F : Int) ≤ 1000000 := hfb.2
        clear hq hfb HD
        refine HIT.out.mono ?_
        rintro ex w1 ⟨rfl, rfl⟩
        clear HIT
        have HI0 := Hid.mk HO1.out.amid
        go_wp2_with fail
        go_loopw [11, 14, 15] (fun s11 s14 s15 wz => ∃ (ro due kk' : Nat) (v : Value) (ms : List Ms), ro + ms.length ≤ 1000 ∧ due ≤ 2000000 ∧ s11 = .int .i64 ro ∧ s14 = v ∧ s15 = .int .i64 due ∧ Hid (Z = Sb.runI ⟨id, by_, T, la, ji⟩ lt e K ro ms due kk') ∧ Hid (AkI w1 wz b p a m c lt kk' v ms)) (fun _ _ d _ => 3000000 - (intOf d).toNat)
        case atStart => exact ⟨room, F, kk, _, [], by simpa using hroom, by omega, rfl, rfl, rfl, HDI, HI0⟩
        case round =>
          obtain ⟨ro, due, kk', v, ms, hro, hdue, rfl, rfl, rfl, HA2, HI⟩ := hrel
          rename World => wz
          by_cases hd : due < e
          · have hd' : (due : Int) < (e : Int) := by omega
            obtain ⟨g0, g1, g2, g3, g4⟩ := HV.out.turn HI.out.tch (by simp; exact HGP.out.1)
            simp only at g0 g1 g2 g3 g4
            have HC := Hid.mk (late_any ⟨id, by_, T, la, ji⟩ b p a m c lt kk' wz HRE.out HI.out.late HMM.out)
            have HMORE : Hid (∀ r : Nat, Sb.badL ⟨id, by_, T, la, ji⟩ lt kk' = false → ro = r + 1 → Z = Sb.runI ⟨id, by_, T, la, ji⟩ lt e K r (ms ++ [(due, due + Sb.lateN ⟨id, by_, T, la, ji⟩ lt kk')]) (due + tN ⟨id, by_, T, la, ji⟩) (Sb.nextK ⟨id, by_, T, la, ji⟩ lt kk')) := Hid.mk (fun r h1 h2 => by rw [HA2.out, h2]; exact Sb.runI_more hd h1)
            have HMANY : Hid (Sb.badL ⟨id, by_, T, la, ji⟩ lt kk' = false → ro = 0 → Z = (2, [])) := Hid.mk (fun h1 h2 => by rw [HA2.out, h2]; exact Sb.runI_many hd h1)
            have HBAD := Hid.mk (fun (h1 : Sb.badL ⟨id, by_, T, la, ji⟩ lt kk' = true) => HA2.out.trans (Sb.runI_bad hd h1))
            have hLN := Sb.lateN_le ⟨id, by_, T, la, ji⟩ lt kk'
            have hJT := (okT_n HRE.out).2.2.2.2.1
            rw [← HTN.out] at hJT HMORE
            have hln2 : Sb.lateN ⟨id, by_, T, la, ji⟩ lt kk' ≤ 1000000 := by omega
            unfold Tk.val at HC
            clear hLN hJT
            simp only at HC
            generalize Sb.lateN ⟨id, by_, T, la, ji⟩ lt kk' = LN at *
            generalize Sb.nextK ⟨id, by_, T, la, ji⟩ lt kk' = kn at *
            generalize Sb.badL ⟨id, by_, T, la, ji⟩ lt kk' = bd at *
            have hlnI : (LN : Int) ≤ 1000000 := by omega
            have hduI : (due : Int) ≤ 2000000 := by omega
            cases bd with
            | true =>
              have HZ3 := Hid.mk (HBAD.out rfl)
              clear HMORE HMANY HBAD
              go_wp2_with (go_at_fn 29; refine HC.out.mono ?_; rintro ex w2 ⟨N, rfl, hN, hL2, ht2⟩; have HI2 := Hid.mk (HI.out.step hL2 ht2 (by have := HP.out.p; have := HGP.out.2.2; omega)); clear hN hL2 ht2)
              go_ret2
              refine ⟨.slice none 0 0, ?_, ?_, HO1.out.old2 HI2.out.tch, HO1.out.tch.trans HI2.out.tch⟩
              · rw [HZ3.out]; rfl
              · intro h; rw [HZ3.out] at h; cases h
            | false =>
              rcases Nat.eq_zero_or_pos ro with hz | hz
              · subst hz
                have HZ3 := Hid.mk (HMANY.out rfl rfl)
                clear HMORE HMANY HBAD
                go_wp2_with (go_at_fn 29; refine HC.out.mono ?_; rintro ex w2 ⟨N, rfl, hN, hL2, ht2⟩; have HI2 := Hid.mk (HI.out.step hL2 ht2 (by have := HP.out.p; have := HGP.out.2.2; omega)); clear hN hL2 ht2)
                go_ret2
                refine ⟨.slice none 0 0, ?_, ?_, HO1.out.old2 HI2.out.tch, HO1.out.tch.trans HI2.out.tch⟩
                · rw [HZ3.out]; rfl
                · intro h; rw [HZ3.out] at h; cases h
              · obtain ⟨rr, rfl⟩ : ∃ rr, ro = rr + 1 := ⟨ro - 1, by omega⟩
                have HZ3 := Hid.mk (HMORE.out rr rfl rfl)
                have hr0 : ((((rr + 1 : Nat) : Int)) == 0) = false := by rw [beq_eq_false_iff_ne]; omega
                have hr1 : (((rr + 1 : Nat) : Int)) - 1 = (rr : Int) := by omega
                have hrI : (((rr + 1 : Nat) : Int)) ≤ 1000 := by omega
                have hml : ms.length ≤ 1000 := by omega
                have hml2 : rr + (ms.length + 1) ≤ 1000 := by omega
                have HSUM : Hid ((due : Int) + (LN : Int) = ((due + LN : Nat) : Int)) := Hid.mk (by omega)
                clear HMORE HMANY HBAD hz hro
                go_wp2_with (first
                  | (go_at_fn 29; refine HC.out.mono ?_; rintro ex w2 ⟨N, rfl, hN, hL2, ht2⟩; obtain rfl := hN rfl; have HI2 := Hid.mk (HI.out.step hL2 ht2 (by have := HP.out.p; have := HGP.out.2.2; omega)); clear hN hL2 ht2)
                  | (at_builtin; refine wpList_append_two rfl (.tmp 54) (.tmp 60) 71 rfl w1.heap.size 73 i0 (.agg #[.int .i64 0, .int .i64 0]) 2 16 Tryd.underlying71 hi0 hz0 hz1 hz2 rfl (by decide) _ ms.length (msCs ms) rfl (ownsRow_below HI2.out.own (awD w2 _)) ⟨w2.heap.size, 0, none⟩ 1 1 [.int .i64 (due : Int), .int .i64 ((due : Int) + (LN : Int))] rfl rfl (two_newD w2 _ _ _) (by intro u hu; simp at hu; rcases hu with rfl | rfl <;> rfl) (by decide) (by unfold maxLen; omega) (by omega) (by have := HI2.out.tch.size; rw [allocQ]; omega) ?_
                     intro v3 w3 hown1 hgrow1 hblk1
                     have HI3 : Hid (AkI w1 w3 b p a m c lt kn v3 (ms ++ [(due, due + LN)])) := Hid.mk (AkI.app (HI2.out.kept (awD w2 _)) HP.out HGP.out.2.2 (by rw [← HSUM.out]; exact hown1) hgrow1)
                     clear hown1 hgrow1 hblk1
                     obtain ⟨g0, g1, g2, g3, g4⟩ := HV.out.turn HI3.out.tch (by simp; exact HGP.out.1)
                     simp only at g0 g1 g2 g3 g4))
                go_roundw
                case rel => exact ⟨rr, due + T, kn, _, ms ++ [(due, due + LN)], by simp; omega, by omega, by go_num, rfl, by go_num, HZ3, HI3⟩
                case measure => simp [intOf]; omega
          · have hd' : ¬ ((due : Int) < (e : Int)) := by omega
            have HZ3 : Hid (Z = Sb.runT lt e ((l.zip fs).drop (k + 1)) (M ++ [ms]) ro kk') := Hid.mk (by rw [HA2.out, Sb.runI_end hd, HKE.out])
            obtain ⟨hO2, a2, c2, rfl, hms, hap⟩ := HO1.out.done HI.out
            have HO2 := Hid.mk (hO2.kept (awD wz (.cells #[.slice a2 ms.length c2] 71)))
            obtain ⟨vs, hvs, hall⟩ := HO2.out.out.row
            have HVS := Hid.mk hvs
            have HALL := Hid.mk hall
            have HMS := Hid.mk (hms.kept (awD wz (.cells #[.slice a2 ms.length c2] 71)))
            have HAP := Hid.mk hap
            have HSZ : Hid (w.heap.size ≤ (wz.alloc (.cells #[.slice a2 ms.length c2] 71)).heap.size) := Hid.mk (by have := hO2.tch.size; rw [allocQ]; omega)
            clear hO2 hms hap hvs hall
            have hMk : M.length ≤ 20 := by omega
            go_wp2_with (at_builtin
                         refine wpList_append_two rfl (.tmp 62) (.tmp 64) 53 rfl w.heap.size 71 i1 (.slice none 0 0) 1 24 Tryd.underlying53 hi1 hy0 hy1 hy2 rfl (by decide) _ M.length vs rfl HVS.out ⟨wz.heap.size, 0, none⟩ 1 1 [.slice a2 ms.length c2] rfl rfl (one_newD wz _ _) (by intro u hu; simp at hu; subst hu; rfl) (by decide) (by unfold maxLen; omega) (by omega) HSZ.out ?_
                         intro v3 w3 hown1 hgrow1 hblk1
                         have HO3 : Hid (AkO w0 w w3 b p a m c lt kk' v3 (M ++ [ms])) := Hid.mk (AkO.app HO2.out HMS.out HAP.out HVS.out HALL.out hown1 hgrow1 hblk1)
                         clear hown1 hgrow1 hblk1)
            go_roundw
            case rel => exact ⟨k + 1, ro, kk', _, M ++ [ms], by omega, by simp; omega, by omega, rfl, rfl, by go_num, HZ3, HO3⟩
            case measure => simp [intOf]; omega
    · obtain rfl : k = n := by omega
      have HF0 : Hid (Z = (0, M)) := Hid.mk (by rw [HA.out, List.drop_eq_nil_of_le (by rw [List.length_zip, HLN.out]; exact Nat.min_le_left _ _), Sb.runT])
      go_wp2_with fail
      go_ret2
      refine ⟨vO, ?_, ?_, HO.out.old, HO.out.tch⟩
      · rw [HF0.out]; rfl
      · intro _; rw [HF0.out]; exact HO.out.out
end Bw
end Go.Proofs.YtnhnemmddgofnaaDoor
