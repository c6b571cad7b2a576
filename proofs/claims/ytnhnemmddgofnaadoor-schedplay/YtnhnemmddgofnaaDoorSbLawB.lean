/- The law SchedPlay where the first checks hold: those that are to go are told, one by one. -/
import Derived.Test.YtnhnemmddgofnaaDoorSbReg
import Derived.Test.YtnhnemmddgofnaaDoorDwRef
import Derived.Deep.LoopGhost
import Derived.Deep.RegionHeld3
import Derived.Deep.AppendLies
import Derived.Deep.DeepCutAuto
import Derived.Lib.QuietBelow
import Derived.BigQuiet
namespace Go.Proofs.YtnhnemmddgofnaaDoor
open Go.ChangeShapes Go.WideShapes Go.ChangeAt Go.RowKit
namespace Bw
open Sb (Ms Sl asks)
set_option linter.unusedVariables false
set_option maxHeartbeats 32000000 in
set_option maxRecDepth 100000 in
theorem splay_okB (aT : Option Addr) (n dT : Nat) (l : List Tk) (aF : Option Addr) (nF cF : Nat) (fs : List Int) (a : Option Addr) (m c : Nat) (lt : List Int) (en : Int) (w : World) (hT : IsTks w aT n dT l) (hF : IsNs w aF nF cF fs) (hL : IsNs w a m c lt) (hS : SizesAt w) (hR : RulesAt w) (hD : w.cell? ⟨5, 1, none⟩ = some (.int .u8 1)) (h0 : chkT l = 0) (h1 : nF = n) (h2 : m ≤ 1000) (h3 : Sb.isTm en = true) (hzz : (playR l fs lt en).1 = 0) :
    Calls Tryd.prog 3 #[.slice aT n dT, .slice aF nF cF, .slice a m c, .int .i64 en] w fun e w' => e = .returned (.bool true) ∧ Below w.heap.size w w' := by
  have HP := Hid.mk (play_any aT n dT l aF nF cF fs a m c lt en w hT hF hL hS hR)
  have HT := Hid.mk hT
  have HF := Hid.mk hF
  have HL := Hid.mk hL
  have HS := Hid.mk hS
  have HR := Hid.mk hR
  have HPL := Hid.mk (fun W (hb : Below w.heap.size w W) => played_any W (HS.out.kept hb) (HR.out.kept hb))
  have HLK := Hid.mk (fun W (hb : Below w.heap.size w W) => lchk_any aT n dT l W (HT.out.kept hb))
  have HDB := Hid.mk hD
  have hen := Sb.isTm_iff.1 h3
  obtain ⟨e, rfl⟩ : ∃ e : Nat, en = e := ⟨en.toNat, by omega⟩
  have hln := hT.len
  have hlf := hF.len
  have hlt := hL.len
  have HRR : Hid (playR l fs lt (e : Int) = Sb.runT lt e (l.zip fs) [] 1000 0) := Hid.mk (by unfold playR; rw [Int.toNat_natCast])
  have HE : Hid (playE l fs lt (e : Int) = (playR l fs lt (e : Int)).1) := Hid.mk (by unfold playE; rw [if_pos h0, if_pos ⟨by omega, by omega, h3⟩])
  have HFA := Hid.mk (play_facts (l := l) (fs := fs) (lt := lt) (en := (e : Int)))
  rw [Int.toNat_natCast] at HFA
  rw [HE.out] at HP HFA
  rw [h0] at HLK
  obtain ⟨Z, hZ⟩ : ∃ Z, Z = playR l fs lt (e : Int) := ⟨_, rfl⟩
  rw [← hZ] at HP HFA HRR hzz
  have HZ0 := Hid.mk hzz
  clear hzz
  have HOK := Hid.mk (chkT_ok h0).2
  have hn20 : n ≤ 20 := by have := (chkT_ok h0).1; omega
  have HLN := Hid.mk hln
  have HFL : Hid (fs.length = l.length) := Hid.mk (by omega)
  have HLL := Hid.mk hlt
  have HEB : Hid (e ≤ 1000000) := Hid.mk (by omega)
  have h2' : (m : Int) ≤ 1000 := by omega
  have heI : (e : Int) ≤ 1000000 := by omega
  have HC0 := Hid.mk h0
  subst h1
  obtain ⟨i0, hi0, hz0, hz1, hz2⟩ := info_partsD info_ak
  clear hZ hT hF hL hS hR hD h0 h2 h3 hln hlf hlt hen HE
  go_enter Tryd.func3, Tryd.ntmps3
  go_wp2_with fail
  refine HP.out.mono ?_
  rintro e w1 ⟨vS, S, rfl, hpi, hb1⟩
  have HPI := Hid.mk hpi
  have HB1 := Hid.mk hb1
  clear hpi hb1 HP
  go_wp2_with fail
  refine (HLK.out _ HB1.out).mono ?_
  rintro e w2 ⟨rfl, hb2⟩
  have HB2 := Hid.mk (bl2 HB1.out hb2)
  have HBC := Hid.mk hb2
  clear hb2 HLK
  go_wp2_with fail
  have HLO : Hid (LwO Z lt e (l.zip fs) 0 0 0 []) := Hid.mk (.inl ⟨rfl, [], 1000, rfl, rfl, rfl, Nat.le_refl _, by rw [HRR.out]; rfl⟩)
  go_loopw [11, 12, 13, 14] (fun s11 s12 s13 s14 wr => ∃ (bad : Int) (i kk : Nat) (vA : Value) (A : List Sb.Ask), s11 = .int .i64 bad ∧ vA = s12 ∧ s13 = .int .i64 kk ∧ s14 = .int .i64 i ∧ i ≤ nF ∧ kk ≤ 1001 ∧ Hid (wr.ownsRow w2.heap.size 33 3 vA A.length (akCs A)) ∧ Hid (Below w2.heap.size w2 wr) ∧ Hid (LwO Z lt e (l.zip fs) bad i kk A)) (fun _ _ _ i _ => nF - (intOf i).toNat)
  case atStart => exact ⟨0, 0, 0, _, [], rfl, rfl, rfl, rfl, Nat.zero_le _, Nat.zero_le _, Hid.mk (World.ownsRow_nil _ _ _ _), Hid.mk (Below.refl _ _), HLO⟩
  case round =>
    clear HLO
    obtain ⟨bad, i, kk, vA, A, rfl, rfl, rfl, rfl, hi, hkk, HO, HB, HLO⟩ := hrel
    rename World => wo
    rcases HLO.out with ⟨rfl, M, room, hML, hAM, hroom, hkA, hZM⟩ | ⟨hbn, hZB⟩
    · by_cases hlt : i < nF
      · have hlt' : (i : Int) < (nF : Int) := by omega
        obtain ⟨x, rfl⟩ := HT.out.some hlt
        obtain ⟨y, rfl⟩ := HF.out.some hlt
        have HBo := Hid.mk (bl2 HB2.out HB.out)
        obtain ⟨c0, c1, c2, c3, c4⟩ := (HT.out.kept HBo.out).cell x rfl i hlt
        obtain ⟨r, hr⟩ : ∃ r, r = l.getD i noT := ⟨_, rfl⟩
        obtain ⟨f, hf⟩ : ∃ f, f = fs.getD i 0 := ⟨_, rfl⟩
        rw [← hr] at c0 c1 c2 c3 c4
        have hrok := HOK.out r (by rw [hr]; exact getD_memT (by rw [HLN.out]; exact hlt))
        obtain ⟨q1, q2, q3, q4, q5, q6, q7, -⟩ := okT_n hrok
        have hb1 := awD wo (tkC r)
        have HB1' := Hid.mk (bl2 HBo.out hb1)
        have HV := Hid.mk (TkAt.new wo r)
        have f0 := (HF.out.kept HB1'.out).cell y rfl i hlt
        rw [← hf] at f0
        have HD : Hid (Z = if Sb.isTm f = true then Sb.runI r lt e (fun ms room k' => Sb.runT lt e ((l.zip fs).drop (i + 1)) (M ++ [ms]) room k') room [] f.toNat kk else (3, [])) := Hid.mk (by rw [hZM, zip_drop HFL.out (by rw [HLN.out]; exact hlt), ← hr, ← hf, Sb.runT])
        have HLR : Hid (LwR w2 (wo.alloc (tkC r)) wo.heap.size vA A) := Hid.mk ⟨bl2 HB.out hb1, ownsRow_below HO.out hb1, fun q hq e => by have := (HO.out.lt q hq).2; omega, by rw [allocQ]; omega⟩
        have HRE := Hid.mk hrok
        have HLL2 := Hid.mk hML
        have HAM := Hid.mk hAM
        have HRM := Hid.mk hroom
        have HKA := Hid.mk hkA
        obtain ⟨T, hTN⟩ : ∃ T, T = tN r := ⟨_, rfl⟩
        obtain ⟨J, hJN⟩ : ∃ J, J = jN r := ⟨_, rfl⟩
        rw [← hTN] at q3 q4 q5 q6
        rw [← hJN] at q5 q7
        have HTN := Hid.mk hTN
        have HJN := Hid.mk hJN
        have q3' : 1 ≤ (T : Int) := by omega
        have q4' : (T : Int) ≤ 1000000 := by omega
        have q5' : (J : Int) ≤ 999999 := by omega
        have q6' := q6
        have q7' := q7
        clear hr hf hb1 hrok q1 q2 q5 q6 q7 hTN hJN hML hAM hroom hkA hZM HLO HO
        obtain ⟨id, by_, ev, la, ji⟩ := r
        simp only at q6' q7'
        subst q6'
        subst q7'
        unfold tkC at HB1' HV HLR f0
        simp only at c0 c1 c2 c3 c4 HB1' HV HLR f0
        obtain ⟨g0, g1, g2, g3, g4⟩ := HV.out
        simp only at g0 g1 g2 g3 g4
        obtain ⟨W1, hW1⟩ : ∃ W1, W1 = wo.alloc (.cells #[.int .i64 id, .int .i64 by_, .int .i64 (T : Int), .int .i64 la, .int .i64 (J : Int)] 31) := ⟨_, rfl⟩
        have HW1 := Hid.mk hW1
        clear hW1
        obtain ⟨GV, hGV⟩ : ∃ GV, GV = wo.heap.size := ⟨_, rfl⟩
        have HGV := Hid.mk hGV
        clear hGV
        by_cases hq : Sb.isTm f = true
        · obtain ⟨F, rfl⟩ : ∃ F : Nat, f = F := ⟨f.toNat, by have := (Sb.isTm_iff.1 hq).1; omega⟩
          have hFb : (F : Int) ≤ 1000000 := (Sb.isTm_iff.1 hq).2
          have hF0 : ¬ ((F : Int) < 0) := by omega
          have hF1 : ¬ ((1000000 : Int) < (F : Int)) := by omega
          obtain ⟨K, hK⟩ : ∃ K : List Ms → Nat → Nat → Sb.AR, K = fun ms room k' => Sb.runT lt e ((l.zip fs).drop (i + 1)) (M ++ [ms]) room k' := ⟨_, rfl⟩
          have HKE := Hid.mk hK
          have HLI0 : Hid (LwI Z lt e ⟨id, by_, T, la, J⟩ K (asks M) 0 i F kk A) := Hid.mk (.inl ⟨rfl, [], room, by rw [HAM.out]; simp [mp], HRM.out, HKA.out, by rw [HD.out, if_pos hq, Int.toNat_natCast, hK]⟩)
          clear hK hq HD
          go_wp2_with fail
          clear f0 c0 c1 c2 c3 c4
          rw [← HW1.out] at HB1' HV HLR g0 g1 g2 g3 g4 ⊢
          rw [← HGV.out] at HV HLR g0 g1 g2 g3 g4 ⊢
          clear HW1 HGV
          go_loopw [11, 12, 13, 16] (fun s11 s12 s13 s16 wz => ∃ (bad : Int) (due kk' : Nat) (vA' : Value) (A' : List Sb.Ask), s11 = .int .i64 bad ∧ vA' = s12 ∧ s13 = .int .i64 kk' ∧ s16 = .int .i64 due ∧ due ≤ 2000000 ∧ kk' ≤ 1001 ∧ Hid (LwR w2 wz GV vA' A') ∧ Hid (TkAt wz GV ⟨id, by_, T, la, J⟩) ∧ Hid (LwI Z lt e ⟨id, by_, T, la, J⟩ K (asks M) bad i due kk' A')) (fun _ _ _ d _ => 3000000 - (intOf d).toNat)
          case atStart => exact ⟨0, F, kk, vA, A, rfl, rfl, rfl, rfl, by omega, hkk, HLR, HV, HLI0⟩
          case round =>
            clear HLI0
            obtain ⟨bad, due, kk', vA', A', rfl, rfl, rfl, rfl, hdue, hkk', HR', HX, HLI⟩ := hrel
            rename World => wz
            rcases HLI.out with ⟨rfl, ms, ro, hA', hro, hkA', hZI⟩ | ⟨hbn, hZB⟩
            · by_cases hd : due < e
              · have hd' : (due : Int) < (e : Int) := by omega
                have HAE := Hid.mk hA'
                have HRO := Hid.mk hro
                have HKA' := Hid.mk hkA'
                have HBAD : Hid (Sb.badL ⟨id, by_, T, la, J⟩ lt kk' = true → Z = (3, [])) := Hid.mk (fun h1 => by rw [hZI]; exact Sb.runI_bad hd h1)
                have HMANY : Hid (Sb.badL ⟨id, by_, T, la, J⟩ lt kk' = false → ro = 0 → Z = (2, [])) := Hid.mk (fun h1 h2 => by rw [hZI, h2]; exact Sb.runI_many hd h1)
                have HMORE : Hid (∀ r : Nat, Sb.badL ⟨id, by_, T, la, J⟩ lt kk' = false → ro = r + 1 → Z = Sb.runI ⟨id, by_, T, la, J⟩ lt e K r (ms ++ [(due, due + Sb.lateN ⟨id, by_, T, la, J⟩ lt kk')]) (due + T) (Sb.nextK ⟨id, by_, T, la, J⟩ lt kk')) := Hid.mk (fun r h1 h2 => by rw [hZI, h2, Sb.runI_more hd h1, ← HTN.out])
                obtain ⟨g0, g1, g2, g3, g4⟩ := HX.out
                simp only at g0 g1 g2 g3 g4
                have hduI : (due : Int) ≤ 2000000 := by omega
                have hkI : (kk' : Int) ≤ 1001 := by omega
                have hAl : A'.length ≤ 1000 := by omega
                have HJN' : Hid (jN ⟨id, by_, T, la, J⟩ = J) := Hid.mk HJN.out.symm
                clear hA' hro hkA' hZI HLI
                cases htk : Sb.takesL ⟨id, by_, T, la, J⟩ lt with
                | false =>
                  have HB0 : Hid (Sb.badL ⟨id, by_, T, la, J⟩ lt kk' = false) := Hid.mk (by unfold Sb.badL; rw [htk]; rfl)
                  have HLTE : Hid (Sb.lateN ⟨id, by_, T, la, J⟩ lt kk' = 0) := Hid.mk (by unfold Sb.lateN; rw [htk]; rfl)
                  have HNKE : Hid (Sb.nextK ⟨id, by_, T, la, J⟩ lt kk' = kk') := Hid.mk (by unfold Sb.nextK; rw [htk]; rfl)
                  have HSUM : Hid ((due : Int) = ((due + 0 : Nat) : Int)) := Hid.mk (by omega)
                  have hjm : J = 0 ∨ m = 0 := by
                    unfold Sb.takesL at htk
                    rw [HLL.out, HJN'.out] at htk
                    by_cases h1 : J = 0
                    · exact .inl h1
                    · by_cases h2 : m = 0
                      · exact .inr h2
                      · simp [h1, h2] at htk
                  clear htk
                  by_cases hj0 : J = 0
                  · have hjt : ¬ ((0 : Int) < (J : Int)) := by omega
                    clear hj0 hjm
                    rcases Nat.eq_zero_or_pos ro with hz | hz
                    · subst hz
                      have HZ3 := Hid.mk (HMANY.out HB0.out rfl)
                      have hlen : (1000 : Int) < ((A'.length + 1 : Nat) : Int) := by have := HRO.out; omega
                      clear HMORE HMANY HBAD
                      exact absurd HZ0.out (by rw [HZ3.out]; decide)
                    · obtain ⟨rr, rfl⟩ : ∃ rr, ro = rr + 1 := ⟨ro - 1, by omega⟩
                      have HZ3 := Hid.mk (HMORE.out rr HB0.out rfl)
                      rw [HLTE.out, HNKE.out] at HZ3
                      have hlen : ¬ ((1000 : Int) < ((A'.length + 1 : Nat) : Int)) := by have := HRO.out; omega
                      clear HMORE HMANY HBAD hz
                      go_wp2_with (at_builtin
                                   refine wpList_append_two rfl (.tmp 132) (.tmp 137) 29 rfl w2.heap.size 33 i0 (.agg #[.int .i64 0, .int .i64 0, .int .i64 0]) 3 24 Tryd.underlying29 hi0 hz0 hz1 hz2 rfl (by decide) _ A'.length (akCs A') rfl (HR'.out.kept (awD wz _)).own ⟨wz.heap.size, 0, none⟩ 1 1 [.int .i64 (i : Int), .int .i64 (due : Int), .int .i64 (due : Int)] rfl rfl (three_newD wz _ _ _ _) (by intro u hu; simp at hu; rcases hu with rfl | rfl | rfl <;> rfl) (by decide) (by unfold maxLen; omega) (by omega) (HR'.out.kept (awD wz _)).below.size ?_
                                   intro v3 w3 hown1 hgrow1 hblk1
                                   have HR3 : Hid (LwR w2 w3 GV v3 (A' ++ [⟨i, due, due + 0⟩])) := Hid.mk ((HR'.out.kept (awD wz _)).app HSUM.out hown1 hgrow1 hblk1)
                                   have HX3 := Hid.mk ((HX.out.kept (awD wz _)).beside (HR'.out.kept (awD wz _)) hgrow1)
                                   obtain ⟨b3, d3, rfl⟩ := own_slice hown1 (by omega)
                                   clear hown1 hgrow1 hblk1
                                   obtain ⟨g0, g1, g2, g3, g4⟩ := HX3.out
                                   simp only at g0 g1 g2 g3 g4)
                      go_roundw
                      case rel => exact ⟨0, due + T, kk', _, A' ++ [⟨i, due, due + 0⟩], rfl, rfl, by go_num, by go_num, by omega, by have := HKA'.out; have := HRO.out; omega, HR3, HX3, Hid.mk (.inl ⟨rfl, ms ++ [(due, due + 0)], rr, by rw [mp_snoc, HAE.out, List.append_assoc], by have := HRO.out; simp; omega, by have := HKA'.out; simp; omega, HZ3.out⟩)⟩
                      case measure => simp [intOf]; omega
                  · have hjt : (0 : Int) < (J : Int) := by omega
                    have hmz : ¬ ((0 : Int) < (m : Int)) := by omega
                    have hmz2 : ¬ (0 < m) := by omega
                    clear hj0 hjm
                    rcases Nat.eq_zero_or_pos ro with hz | hz
                    · subst hz
                      have HZ3 := Hid.mk (HMANY.out HB0.out rfl)
                      have hlen : (1000 : Int) < ((A'.length + 1 : Nat) : Int) := by have := HRO.out; omega
                      clear HMORE HMANY HBAD
                      exact absurd HZ0.out (by rw [HZ3.out]; decide)
                    · obtain ⟨rr, rfl⟩ : ∃ rr, ro = rr + 1 := ⟨ro - 1, by omega⟩
                      have HZ3 := Hid.mk (HMORE.out rr HB0.out rfl)
                      rw [HLTE.out, HNKE.out] at HZ3
                      have hlen : ¬ ((1000 : Int) < ((A'.length + 1 : Nat) : Int)) := by have := HRO.out; omega
                      clear HMORE HMANY HBAD hz
                      go_wp2_with (at_builtin
                                   refine wpList_append_two rfl (.tmp 132) (.tmp 137) 29 rfl w2.heap.size 33 i0 (.agg #[.int .i64 0, .int .i64 0, .int .i64 0]) 3 24 Tryd.underlying29 hi0 hz0 hz1 hz2 rfl (by decide) _ A'.length (akCs A') rfl (HR'.out.kept (awD wz _)).own ⟨wz.heap.size, 0, none⟩ 1 1 [.int .i64 (i : Int), .int .i64 (due : Int), .int .i64 (due : Int)] rfl rfl (three_newD wz _ _ _ _) (by intro u hu; simp at hu; rcases hu with rfl | rfl | rfl <;> rfl) (by decide) (by unfold maxLen; omega) (by omega) (HR'.out.kept (awD wz _)).below.size ?_
                                   intro v3 w3 hown1 hgrow1 hblk1
                                   have HR3 : Hid (LwR w2 w3 GV v3 (A' ++ [⟨i, due, due + 0⟩])) := Hid.mk ((HR'.out.kept (awD wz _)).app HSUM.out hown1 hgrow1 hblk1)
                                   have HX3 := Hid.mk ((HX.out.kept (awD wz _)).beside (HR'.out.kept (awD wz _)) hgrow1)
                                   obtain ⟨b3, d3, rfl⟩ := own_slice hown1 (by omega)
                                   clear hown1 hgrow1 hblk1
                                   obtain ⟨g0, g1, g2, g3, g4⟩ := HX3.out
                                   simp only at g0 g1 g2 g3 g4)
                      go_roundw
                      case rel => exact ⟨0, due + T, kk', _, A' ++ [⟨i, due, due + 0⟩], rfl, rfl, by go_num, by go_num, by omega, by have := HKA'.out; have := HRO.out; omega, HR3, HX3, Hid.mk (.inl ⟨rfl, ms ++ [(due, due + 0)], rr, by rw [mp_snoc, HAE.out, List.append_assoc], by have := HRO.out; simp; omega, by have := HKA'.out; simp; omega, HZ3.out⟩)⟩
                      case measure => simp [intOf]; omega
                | true =>
                  have hjm : J ≠ 0 ∧ m ≠ 0 := by
                    have := htk
                    unfold Sb.takesL at this
                    rw [HLL.out, HJN'.out] at this
                    simpa using this
                  obtain ⟨ya, hya⟩ := HL.out.some (i := kk' % m) (Nat.mod_lt _ (by omega))
                  have hcell := (HL.out.kept (bl2 HB2.out HR'.out.below)).cell ya hya (kk' % m) (Nat.mod_lt _ (by omega))
                  obtain ⟨V, hV⟩ : ∃ V, V = lt.getD (kk' % m) 0 := ⟨_, rfl⟩
                  rw [← hV] at hcell
                  have HBE : Hid (Sb.badL ⟨id, by_, T, la, J⟩ lt kk' = decide (V < 0)) := Hid.mk (by unfold Sb.badL Sb.lv; rw [htk, HLL.out, ← hV]; rfl)
                  have HLTE0 : Hid (Sb.lateN ⟨id, by_, T, la, J⟩ lt kk' = V.toNat % (J + 1)) := Hid.mk (by unfold Sb.lateN Sb.lv; rw [if_pos htk, HLL.out, ← hV, HJN'.out])
                  have HNKE : Hid (Sb.nextK ⟨id, by_, T, la, J⟩ lt kk' = kk' + 1) := Hid.mk (by unfold Sb.nextK; rw [if_pos htk])
                  have hkm := Nat.mod_lt kk' (show m > 0 by omega)
                  have e3 : (kk' : Int).tmod (m : Int) = ((kk' % m : Nat) : Int) := rfl
                  obtain ⟨KM, hKM⟩ : ∃ KM, KM = kk' % m := ⟨_, rfl⟩
                  rw [← hKM] at hcell hkm e3
                  have hkmI : (KM : Int) < (m : Int) := by omega
                  have e4 : IntKind.i64.wrap (KM : Int) = (KM : Int) := wrap_small (by omega) (by omega)
                  have hmm : ¬ (m : Int) = 0 := by omega
                  have hjt : (0 : Int) < (J : Int) := by omega
                  have hjt2 : 0 < J := by omega
                  have hmt : (0 : Int) < (m : Int) := by omega
                  have hmt2 : 0 < m := by omega
                  subst hya
                  clear hV hKM hjm htk
                  by_cases hv : V < 0
                  · have HZ3 := Hid.mk (HBAD.out (by rw [HBE.out]; exact decide_eq_true hv))
                    exact absurd HZ0.out (by rw [HZ3.out]; decide)
                  · have HB0 : Hid (Sb.badL ⟨id, by_, T, la, J⟩ lt kk' = false) := Hid.mk (by rw [HBE.out]; exact decide_eq_false hv)
                    obtain ⟨VN, hVN⟩ : ∃ VN : Nat, V = VN := ⟨V.toNat, by omega⟩
                    have e1 : V.tmod ((J : Int) + 1) = ((VN % (J + 1) : Nat) : Int) := by
                      rw [hVN, show ((J : Int) + 1) = ((J + 1 : Nat) : Int) by omega]
                      rfl
                    have hL1 := Nat.mod_lt VN (show J + 1 > 0 by omega)
                    have HLTE : Hid (Sb.lateN ⟨id, by_, T, la, J⟩ lt kk' = VN % (J + 1)) := Hid.mk (by rw [HLTE0.out, hVN, Int.toNat_natCast])
                    obtain ⟨LN, hLN⟩ : ∃ LN, LN = VN % (J + 1) := ⟨_, rfl⟩
                    rw [← hLN] at e1 hL1 HLTE
                    have hLb : (LN : Int) ≤ 999999 := by omega
                    have e2 : IntKind.i64.wrap (LN : Int) = (LN : Int) := wrap_small (by omega) (by omega)
                    have hjz : ¬ (J : Int) + 1 = 0 := by omega
                    have HSUM : Hid ((due : Int) + (LN : Int) = ((due + LN : Nat) : Int)) := Hid.mk (by omega)
                    have hkk2 : kk' + 1 ≤ 1001 := by have := HKA'.out; have := HRO.out; omega
                    clear hVN hLN hL1 hkk'
                    rcases Nat.eq_zero_or_pos ro with hz | hz
                    · subst hz
                      have HZ3 := Hid.mk (HMANY.out HB0.out rfl)
                      have hlen : (1000 : Int) < ((A'.length + 1 : Nat) : Int) := by have := HRO.out; omega
                      clear HMORE HMANY HBAD
                      exact absurd HZ0.out (by rw [HZ3.out]; decide)
                    · obtain ⟨rr, rfl⟩ : ∃ rr, ro = rr + 1 := ⟨ro - 1, by omega⟩
                      have HZ3 := Hid.mk (HMORE.out rr HB0.out rfl)
                      rw [HLTE.out, HNKE.out] at HZ3
                      have hlen : ¬ ((1000 : Int) < ((A'.length + 1 : Nat) : Int)) := by have := HRO.out; omega
                      clear HMORE HMANY HBAD hz
                      go_wp2_with fail
                      go_quiet (fail)
                      have hbq := below_drD (Below.refl wz.heap.size wz) nq
                      have HRq := Hid.mk (HR'.out.kept hbq)
                      have HXq := Hid.mk (HX.out.kept hbq)
                      obtain ⟨g0, g1, g2, g3, g4⟩ := HXq.out
                      simp only at g0 g1 g2 g3 g4
                      generalize wz.drewN nq = wq at *
                      go_wp2_with (at_builtin
                                   refine wpList_append_two rfl (.tmp 132) (.tmp 137) 29 rfl w2.heap.size 33 i0 (.agg #[.int .i64 0, .int .i64 0, .int .i64 0]) 3 24 Tryd.underlying29 hi0 hz0 hz1 hz2 rfl (by decide) _ A'.length (akCs A') rfl (HRq.out.kept (awD wq _)).own ⟨wq.heap.size, 0, none⟩ 1 1 [.int .i64 (i : Int), .int .i64 (due : Int), .int .i64 ((due : Int) + (LN : Int))] rfl rfl (three_newD wq _ _ _ _) (by intro u hu; simp at hu; rcases hu with rfl | rfl | rfl <;> rfl) (by decide) (by unfold maxLen; omega) (by omega) (HRq.out.kept (awD wq _)).below.size ?_
                                   intro v3 w3 hown1 hgrow1 hblk1
                                   have HR3 : Hid (LwR w2 w3 GV v3 (A' ++ [⟨i, due, due + LN⟩])) := Hid.mk ((HRq.out.kept (awD wq _)).app HSUM.out hown1 hgrow1 hblk1)
                                   have HX3 := Hid.mk ((HXq.out.kept (awD wq _)).beside (HRq.out.kept (awD wq _)) hgrow1)
                                   obtain ⟨b3, d3, rfl⟩ := own_slice hown1 (by omega)
                                   clear hown1 hgrow1 hblk1
                                   obtain ⟨g0, g1, g2, g3, g4⟩ := HX3.out
                                   simp only at g0 g1 g2 g3 g4)
                      go_roundw
                      case rel => exact ⟨0, due + T, (kk' + 1), _, A' ++ [⟨i, due, due + LN⟩], rfl, rfl, by go_num, by go_num, by omega, by have := HKA'.out; have := HRO.out; omega, HR3, HX3, Hid.mk (.inl ⟨rfl, ms ++ [(due, due + LN)], rr, by rw [mp_snoc, HAE.out, List.append_assoc], by have := HRO.out; simp; omega, by have := HKA'.out; simp; omega, HZ3.out⟩)⟩
                      case measure => simp [intOf]; omega
              · have hd' : ¬ ((due : Int) < (e : Int)) := by omega
                have HZN : Hid (LwO Z lt e (l.zip fs) 0 (i + 1) kk' A') := Hid.mk (.inl ⟨rfl, M ++ [ms], ro, by simp [HLL2.out], by rw [hA', asks_snoc, HLL2.out], hro, hkA', by rw [hZI, Sb.runI_end hd, HKE.out]⟩)
                clear hA' hro hkA' hZI HLI
                go_wp2_with fail
                go_roundw
                case rel => exact ⟨0, i + 1, kk', vA', A', rfl, rfl, rfl, by go_num, by omega, hkk', Hid.mk HR'.out.own, Hid.mk HR'.out.below, HZN⟩
                case measure => simp [intOf]; omega
            · exact absurd HZ0.out (by rw [hZB]; exact hbn)
        · by_cases hf0 : f < 0
          · have HZ3 : Hid (Z = (3, [])) := Hid.mk (by rw [HD.out, if_neg hq])
            exact absurd HZ0.out (by rw [HZ3.out]; decide)
          · have hf1 : 1000000 < f := by
              rcases Int.lt_or_le 1000000 f with h | h
              · exact h
              · exact absurd (Sb.isTm_iff.2 ⟨by omega, h⟩) hq
            have HZ3 : Hid (Z = (3, [])) := Hid.mk (by rw [HD.out, if_neg hq])
            exact absurd HZ0.out (by rw [HZ3.out]; decide)
      · obtain rfl : i = nF := by omega
        have HZM : Hid (Z = (0, M)) := Hid.mk (by rw [hZM, List.drop_eq_nil_of_le (by rw [List.length_zip, HLN.out]; exact Nat.min_le_left _ _), Sb.runT])
        have hAA := (HFA.out (by rw [HZM.out])).2.1
        rw [HZM.out] at hAA
        have HAA := Hid.mk hAA
        have hpl : Sb.Play (Sb.cT l) 0 (asks M) S := by
          have := HPI.out.play (by rw [HZM.out])
          rw [HZM.out] at this
          exact this
        obtain ⟨b, d, hv, hI, -, -⟩ := sls_own (HPI.out.own (by rw [HZM.out]))
        have hsl := (play_len hAA hpl).2
        obtain ⟨ml, hml⟩ : ∃ ml, ml = S.length := ⟨_, rfl⟩
        rw [← hml] at hv hI hsl
        subst hv
        have HSI := Hid.mk hI
        have HPLS := Hid.mk hpl
        have HML := Hid.mk hml
        have HBo := Hid.mk (bl2 HB2.out HB.out)
        have HKB : Hid (∀ x ∈ asks M, x.k < i ∧ x.d ≤ 2000000 ∧ x.a ≤ 2000000) := Hid.mk (fun x hx => by
          obtain ⟨q, h1, h2, h3, h4⟩ := Sb.mem_asks hx
          rw [hAA.len] at h1
          obtain ⟨j, hj, e1⟩ := Sb.getD_of_mem h2
          have h5 := (hAA.row x.k h1).1 j hj
          rw [e1] at h5
          have := okT_n (HOK.out _ (getD_memT h1))
          have := HLN.out
          have := HEB.out
          omega)
        have HZE : Hid (Z.1 = 0) := Hid.mk (by rw [HZM.out])
        have hAl : A.length ≤ 1000 := by omega
        have HAM := Hid.mk hAM
        have HIE := Hid.mk (HSI.out.kept HBC.out)
        clear hAA hpl hI hml hZM hML hroom hkA HLO HFA HPI HRR
        rw [HZE.out]
        go_wp2_with fail
        refine (HPL.out _ HBo.out).mono ?_
        rintro ex w5 ⟨rfl, hb5⟩
        have HB5 := Hid.mk (bl2 HB.out hb5)
        have HO5 := Hid.mk (ownsRow_below HO.out hb5)
        have HBo5 := Hid.mk (bl2 HBo.out hb5)
        have HUP := Hid.mk (fun q (hq : vA.ownBlock = some q) => show q < w5.heap.size by have := (HO.out.lt q hq).2; have := hb5.size; omega)
        clear hb5 HO HB HBo
        obtain ⟨i1, hi1, hy0, hy1, hy2⟩ := info_partsD info_sl
        go_wp2_with fail
        go_loopg [12, 18, 19] (A.length + 1) (fun gk s12 s18 s19 wr => ∃ (free : Nat) (vA' vW : Value) (A' : List Sb.Ask) (S1 : List Sl), vA' = s12 ∧ vW = s18 ∧ s19 = .int .i64 free ∧ A'.length + 1 ≤ gk ∧ S1.length + A'.length ≤ 1000 ∧ free ≤ 2000000 + S1.length * 135 ∧ Hid (wr.ownsRow w2.heap.size 33 3 vA' A'.length (akCs A')) ∧ Hid (∀ q, vA'.ownBlock = some q → q < w5.heap.size) ∧ Hid (wr.ownsRow w5.heap.size 38 4 vW S1.length (slCs (Sb.cT l) S1)) ∧ Hid (Below w2.heap.size w2 wr) ∧ Hid (w5.heap.size ≤ wr.heap.size) ∧ Hid (∀ S2, Sb.Play (Sb.cT l) free A' S2 → Sb.Play (Sb.cT l) 0 A (S1 ++ S2)) ∧ Hid (∀ x ∈ A', x ∈ A))
        case atStart => exact ⟨0, vA, _, A, [], rfl, rfl, rfl, Nat.le_refl _, by simpa using hAl, by omega, HO5, HUP, Hid.mk (World.ownsRow_nil _ _ _ _), HB5, Hid.mk (Nat.le_refl _), Hid.mk (fun S2 h => h), Hid.mk (fun x h => h)⟩
        case round =>
          clear HO5 HUP
          obtain ⟨free, vA', vW, A', S1, rfl, rfl, rfl, hgk, hcnt, hfree, HO, HU, HW, HB, HSZ, HPP, HIN⟩ := hrel
          rename World => wl
          rcases Nat.eq_zero_or_pos A'.length with hz | hpos
          · have hA0 : A' = [] := List.eq_nil_of_length_eq_zero hz
            subst hA0
            have hS1 : S1 = S := by
              have h1 := HPP.out [] (Sb.Play.done free)
              rw [List.append_nil, HAM.out] at h1
              exact h1.det HPLS.out (List.Perm.refl _) (Sb.key_nodup (HAA.out.sorted HC0.out))
            subst hS1
            obtain ⟨ao, co, hvo⟩ := own_slc HO.out
            subst hvo
            obtain ⟨b2, c2, hvw, hI2, -, -⟩ := sls_own HW.out
            rw [← HML.out] at hvw hI2
            subst hvw
            have HEQ := Hid.mk (equalSl_true b b2 ml d c2 (Sb.cT l) S1 wl (HIE.out.kept HB.out) hI2 hsl)
            clear hI2 hz hgk hcnt hfree HPP HIN
            go_wp2_with fail
            refine HEQ.out.mono ?_
            rintro ex w6 ⟨rfl, hb6⟩
            have HB6 := Hid.mk (bl2 HB2.out (bl2 HB.out hb6))
            clear hb6
            go_wp2_with fail
            go_ret
            exact ⟨rfl, HB6.out⟩
          · obtain ⟨N, hN⟩ : ∃ N, N = A'.length := ⟨_, rfl⟩
            rw [← hN] at HO hpos hcnt hgk
            have HNE := Hid.mk hN
            obtain ⟨g, cap, hvA⟩ := own_slice HO.out hpos
            subst hvA
            have HGK := Hid.mk hgk
            have HCN := Hid.mk hcnt
            have hNI : (N : Int) ≤ 1000 := by omega
            have hN0 : (0 : Int) < (N : Int) := by omega
            have hSl : S1.length ≤ 1000 := by omega
            have HCL : Hid (∀ W, Below wl.heap.size wl W → ∀ k, k < N → W.cell? ⟨g, k * 3, none⟩ = some (.int .i64 ((A'.getD k noA).k : Nat)) ∧ W.cell? ⟨g, k * 3 + 1, none⟩ = some (.int .i64 ((A'.getD k noA).d : Nat)) ∧ W.cell? ⟨g, k * 3 + 2, none⟩ = some (.int .i64 ((A'.getD k noA).a : Nat))) := Hid.mk (fun W hb k hk => ak_cells (ownsRow_below HO.out hb) (by rw [← HNE.out]; exact hk))
            have HBD : Hid (∀ k, k < N → (A'.getD k noA).k < i ∧ (A'.getD k noA).d ≤ 2000000 ∧ (A'.getD k noA).a ≤ 2000000) := Hid.mk (fun k hk => HKB.out _ (by rw [← HAM.out]; exact HIN.out _ (ak_mem (by rw [← HNE.out]; exact hk))))
            have HSN0 : Hid (SoonOk A' 0 (A'.getD 0 noA).a) := Hid.mk (SoonOk.start (by rw [← HNE.out]; exact hpos))
            obtain ⟨-, -, z2⟩ := HCL.out wl (Below.refl _ _) 0 hpos
            have hsb := (HBD.out 0 hpos).2.2
            simp only [Nat.zero_mul, Nat.zero_add] at z2
            generalize (A'.getD 0 noA).a = sn0 at *
            clear hN hgk hcnt
            go_wp2_with fail
            go_loopw [20, 168] (fun s20 s168 wr => ∃ (k sn : Nat), k ≤ N ∧ s20 = .int .i64 sn ∧ s168 = .int .i64 k ∧ sn ≤ 2000000 ∧ Hid (SoonOk A' k sn) ∧ Hid (Below wl.heap.size wl wr)) (fun _ k _ => N - (intOf k).toNat)
            case atStart => exact ⟨0, sn0, Nat.zero_le _, rfl, rfl, hsb, HSN0, Hid.mk (Below.refl _ _)⟩
            case round =>
              clear HSN0 z2 hsb
              obtain ⟨k, sn, hk, rfl, rfl, hsn, HSN, HBz⟩ := hrel
              rename World => wz
              by_cases hlk : k < N
              · have hlk' : (k : Int) < (N : Int) := by omega
                obtain ⟨z0, z1, z2⟩ := HCL.out wz HBz.out k hlk
                have HNX := Hid.mk (HSN.out.next (by rw [← HNE.out]; exact hlk))
                have hsb2 := (HBD.out k hlk).2.2
                generalize A'.getD k noA = P at *
                obtain ⟨PK, PD, PA⟩ := P
                simp only at z0 z1 z2 HNX hsb2
                have hbz := awD wz (.cells #[.int .i64 (PK : Int), .int .i64 (PD : Int), .int .i64 (PA : Int)] 33)
                have HBz1 := Hid.mk (bl2 HBz.out hbz)
                have hh := heap_alloc_new wz (.cells #[.int .i64 (PK : Int), .int .i64 (PD : Int), .int .i64 (PA : Int)] 33)
                have v2 : (wz.alloc (.cells #[.int .i64 (PK : Int), .int .i64 (PD : Int), .int .i64 (PA : Int)] 33)).cell? ⟨wz.heap.size, 2, none⟩ = some (.int .i64 (PA : Int)) := cell_of_row _ _ 2 _ _ _ hh
                have HMN : Hid (min (sn : Int) (PA : Int) = ((min sn PA : Nat) : Int)) := Hid.mk (by omega)
                clear hbz hh
                go_wp2_with fail
                rw [HMN.out]
                go_roundw
                case rel => exact ⟨k + 1, min sn PA, by omega, rfl, by go_num, by omega, HNX, HBz1⟩
                case measure => simp [intOf]; omega
              · obtain rfl : k = N := by omega
                have HSE : Hid (SoonOk A' A'.length sn) := Hid.mk (by rw [← HNE.out]; exact HSN.out)
                obtain ⟨tm, htm⟩ : ∃ tm, tm = max free sn := ⟨_, rfl⟩
                have HMX : Hid (max (free : Int) (sn : Int) = (tm : Int)) := Hid.mk (by omega)
                have htmb : tm ≤ 2000000 + S1.length * 135 := by omega
                have HBS := Hid.mk (fun (bs : Int) (h : BestOk A' tm A'.length bs) => best_step htm HPP.out HSE.out h)
                have htmI : (tm : Int) ≤ 2135000 := by omega
                clear htm HSN HSE hlk hsn
                go_wp2_with fail
                rw [HMX.out]
                go_loopw [23, 182] (fun s23 s182 wr => ∃ (k' : Nat) (bs : Int), k' ≤ k ∧ s23 = .int .i64 bs ∧ s182 = .int .i64 k' ∧ Hid (BestOk A' tm k' bs) ∧ Hid (Below wl.heap.size wl wr)) (fun _ q _ => k - (intOf q).toNat)
                case atStart => exact ⟨0, -1, Nat.zero_le _, rfl, rfl, Hid.mk (BestOk.start _ _), HBz⟩
                case round =>
                  clear HBz
                  obtain ⟨k', bs, hk', rfl, rfl, HBE, HBy⟩ := hrel
                  rename World => wy
                  by_cases hlk : k' < k
                  · have hlk' : (k' : Int) < (k : Int) := by omega
                    obtain ⟨z0, z1, z2⟩ := HCL.out wy HBy.out k' hlk
                    obtain ⟨P, hP⟩ : ∃ P, P = A'.getD k' noA := ⟨_, rfl⟩
                    have hkl : k' < A'.length := by rw [← HNE.out]; exact hlk
                    have HSK := Hid.mk (fun (h : ¬ P.a ≤ tm) => HBE.out.skip hkl (by rw [← hP]; exact h))
                    have HFI := Hid.mk (fun (hb : bs = -1) (h : P.a ≤ tm) => show BestOk A' tm (k' + 1) (k' : Int) from BestOk.first (by rw [← hb]; exact HBE.out) hkl (by rw [← hP]; exact h))
                    have HBT := Hid.mk (fun (j : Nat) (hb : bs = j) (h : P.a ≤ tm) (hc : P.k < (A'.getD j noA).k ∨ (P.k = (A'.getD j noA).k ∧ P.d < (A'.getD j noA).d)) => show BestOk A' tm (k' + 1) (k' : Int) from BestOk.better (by rw [← hb]; exact HBE.out) hkl (by rw [← hP]; exact h) (by rw [← hP]; exact hc))
                    have HKP := Hid.mk (fun (j : Nat) (hb : bs = j) (hc : (A'.getD j noA).k < P.k ∨ ((A'.getD j noA).k = P.k ∧ (A'.getD j noA).d ≤ P.d)) => show BestOk A' tm (k' + 1) (j : Int) from BestOk.keep (by rw [← hb]; exact HBE.out) hkl (by rw [← hP]; exact hc))
                    rw [← hP] at z0 z1 z2
                    clear hP
                    obtain ⟨PK, PD, PA⟩ := P
                    simp only at z0 z1 z2 HSK HFI HBT HKP
                    have hby := awD wy (.cells #[.int .i64 (PK : Int), .int .i64 (PD : Int), .int .i64 (PA : Int)] 33)
                    have HBy1 := Hid.mk (bl2 HBy.out hby)
                    have hh := heap_alloc_new wy (.cells #[.int .i64 (PK : Int), .int .i64 (PD : Int), .int .i64 (PA : Int)] 33)
                    have v0 : (wy.alloc (.cells #[.int .i64 (PK : Int), .int .i64 (PD : Int), .int .i64 (PA : Int)] 33)).cell? ⟨wy.heap.size, 0, none⟩ = some (.int .i64 (PK : Int)) := cell_of_row _ _ 0 _ _ _ hh
                    have v1 : (wy.alloc (.cells #[.int .i64 (PK : Int), .int .i64 (PD : Int), .int .i64 (PA : Int)] 33)).cell? ⟨wy.heap.size, 1, none⟩ = some (.int .i64 (PD : Int)) := cell_of_row _ _ 1 _ _ _ hh
                    have v2 : (wy.alloc (.cells #[.int .i64 (PK : Int), .int .i64 (PD : Int), .int .i64 (PA : Int)] 33)).cell? ⟨wy.heap.size, 2, none⟩ = some (.int .i64 (PA : Int)) := cell_of_row _ _ 2 _ _ _ hh
                    clear hby hh hkl
                    by_cases hat : PA ≤ tm
                    · have hd0 : decide ((PA : Int) ≤ (tm : Int)) = true := decide_eq_true (by omega)
                      have hn0 : decide (PA ≤ tm) = true := decide_eq_true hat
                      rcases HBE.out with ⟨hbs, -⟩ | ⟨j, hjk, hbs, -⟩
                      · subst hbs
                        have HN2 := Hid.mk (HFI.out rfl hat)
                        have hd1 : decide ((-1 : Int) < 0) = true := by decide
                        clear HSK HFI HBT HKP
                        go_wp2_with fail
                        go_quiet (fail)
                        go_wp2_with fail
                        go_roundw
                        case rel => exact ⟨k' + 1, k', by omega, rfl, by go_num, HN2, Hid.mk (below_drD HBy1.out _)⟩
                        case measure => simp [intOf]; omega
                      · subst hbs
                        have hd1 : decide ((j : Int) < 0) = false := decide_eq_false (by omega)
                        obtain ⟨y0, y1, -⟩ := HCL.out (wy.alloc (.cells #[.int .i64 (PK : Int), .int .i64 (PD : Int), .int .i64 (PA : Int)] 33)) HBy1.out j (by omega)
                        have hjI : (j : Int) < (k : Int) := by omega
                        have hjN : j < k := by omega
                        have HBT2 := Hid.mk (HBT.out j rfl hat)
                        have HKP2 := Hid.mk (HKP.out j rfl)
                        generalize A'.getD j noA = R at *
                        obtain ⟨RK, RD, RA⟩ := R
                        simp only at y0 y1 HBT2 HKP2
                        clear HSK HFI HBT HKP
                        by_cases h1 : PK < RK
                        · have HN2 := Hid.mk (HBT2.out (.inl h1))
                          have hd2 : decide ((PK : Int) < (RK : Int)) = true := decide_eq_true (by omega)
                          have hn2 : decide (PK < RK) = true := decide_eq_true h1
                          clear HBT2 HKP2
                          go_wp2_with fail
                          go_quiet (fail)
                          go_wp2_with fail
                          go_roundw
                          case rel => exact ⟨k' + 1, k', by omega, rfl, by go_num, HN2, Hid.mk (below_drD HBy1.out _)⟩
                          case measure => simp [intOf]; omega
                        · have hd2 : decide ((PK : Int) < (RK : Int)) = false := decide_eq_false (by omega)
                          have hn2 : decide (PK < RK) = false := decide_eq_false h1
                          by_cases h2 : PK = RK
                          · subst h2
                            by_cases h3 : PD < RD
                            · have HN2 := Hid.mk (HBT2.out (.inr ⟨rfl, h3⟩))
                              have hd4 : decide ((PD : Int) < (RD : Int)) = true := decide_eq_true (by omega)
                              have hn4 : decide (PD < RD) = true := decide_eq_true h3
                              clear HBT2 HKP2
                              go_wp2_with fail
                              go_quiet (fail)
                              go_wp2_with fail
                              go_roundw
                              case rel => exact ⟨k' + 1, k', by omega, rfl, by go_num, HN2, Hid.mk (below_drD HBy1.out _)⟩
                              case measure => simp [intOf]; omega
                            · have HN2 := Hid.mk (HKP2.out (.inr ⟨rfl, by omega⟩))
                              have hd4 : decide ((PD : Int) < (RD : Int)) = false := decide_eq_false (by omega)
                              have hn4 : decide (PD < RD) = false := decide_eq_false h3
                              clear HBT2 HKP2
                              go_wp2_with fail
                              go_quiet (fail)
                              go_wp2_with fail
                              go_roundw
                              case rel => exact ⟨k' + 1, j, by omega, rfl, by go_num, HN2, Hid.mk (below_drD HBy1.out _)⟩
                              case measure => simp [intOf]; omega
                          · have HN2 := Hid.mk (HKP2.out (.inl (by omega)))
                            have hd3 : ((PK : Int) == (RK : Int)) = false := by rw [beq_eq_false_iff_ne]; omega
                            have hn3 : (PK == RK) = false := by rw [beq_eq_false_iff_ne]; omega
                            clear HBT2 HKP2
                            go_wp2_with fail
                            go_quiet (fail)
                            go_wp2_with fail
                            go_roundw
                            case rel => exact ⟨k' + 1, j, by omega, rfl, by go_num, HN2, Hid.mk (below_drD HBy1.out _)⟩
                            case measure => simp [intOf]; omega
                    · have hd0 : decide ((PA : Int) ≤ (tm : Int)) = false := decide_eq_false (by omega)
                      have hn0 : decide (PA ≤ tm) = false := decide_eq_false hat
                      have HN2 := Hid.mk (HSK.out hat)
                      clear HSK HFI HBT HKP
                      go_wp2_with fail
                      go_quiet (fail)
                      go_wp2_with fail
                      go_roundw
                      case rel => exact ⟨k' + 1, bs, by omega, rfl, by go_num, HN2, Hid.mk (below_drD HBy1.out _)⟩
                      case measure => simp [intOf]; omega
                  · obtain rfl : k' = k := by omega
                    obtain ⟨j, hj, hbs, hgo⟩ := HBS.out bs (by rw [← HNE.out]; exact HBE.out)
                    subst hbs
                    have hjN : j < k' := by rw [HNE.out]; exact hj
                    obtain ⟨z0, z1, z2⟩ := HCL.out wy HBy.out j hjN
                    have hbd := HBD.out j hjN
                    have HEL : Hid ((A'.eraseIdx j).length = k' - 1) := Hid.mk (by rw [List.length_eraseIdx_of_lt hj, ← HNE.out])
                    have HMM : Hid (∀ x ∈ A'.eraseIdx j, x ∈ A) := Hid.mk (fun x hx => HIN.out x (List.mem_of_mem_eraseIdx hx))
                    have HGO := Hid.mk hgo
                    have HGL := Hid.mk (HU.out g rfl)
                    have HGB := Hid.mk (HO.out.lt g rfl).1
                    have HVW := Hid.mk (fun q (hq : vW.ownBlock = some q) => HW.out.lt q hq)
                    obtain ⟨P, hP⟩ : ∃ P, P = A'.getD j noA := ⟨_, rfl⟩
                    rw [← hP] at z0 z1 z2 hbd HGO
                    clear hP hgo HBS HBE hj
                    obtain ⟨PK, PD, PA⟩ := P
                    simp only at z0 z1 z2 hbd HGO
                    have hby := awD wy (.cells #[.int .i64 (PK : Int), .int .i64 (PD : Int), .int .i64 (PA : Int)] 33)
                    have HBy1 := Hid.mk (bl2 HBy.out hby)
                    have hh := heap_alloc_new wy (.cells #[.int .i64 (PK : Int), .int .i64 (PD : Int), .int .i64 (PA : Int)] 33)
                    have v0 : (wy.alloc (.cells #[.int .i64 (PK : Int), .int .i64 (PD : Int), .int .i64 (PA : Int)] 33)).cell? ⟨wy.heap.size, 0, none⟩ = some (.int .i64 (PK : Int)) := cell_of_row _ _ 0 _ _ _ hh
                    have v1 : (wy.alloc (.cells #[.int .i64 (PK : Int), .int .i64 (PD : Int), .int .i64 (PA : Int)] 33)).cell? ⟨wy.heap.size, 1, none⟩ = some (.int .i64 (PD : Int)) := cell_of_row _ _ 1 _ _ _ hh
                    have HDEL := Hid.mk (del_any w2.heap.size g k' cap j (j + 1) A' (wy.alloc (.cells #[.int .i64 (PK : Int), .int .i64 (PD : Int), .int .i64 (PA : Int)] 33)) (ownsRow_below HO.out HBy1.out) HNE.out.symm hjN rfl (by omega))
                    rw [show (((j + 1 : Nat) : Int)) = (j : Int) + 1 by omega] at HDEL
                    have hjI : (j : Int) < (k' : Int) := by omega
                    have hj1 : (j : Int) ≤ 1000 := by omega
                    have HV0 := Hid.mk v0
                    have HV1 := Hid.mk v1
                    have HVB : Hid (g < wy.heap.size) := Hid.mk (by have := HGL.out; have := HSZ.out; have := HBy.out.size; omega)
                    have HVL : Hid (wl.heap.size ≤ wy.heap.size) := Hid.mk HBy.out.size
                    obtain ⟨VB, hVB⟩ : ∃ VB, VB = wy.heap.size := ⟨_, rfl⟩
                    have HVE := Hid.mk hVB
                    clear hby hh hVB
                    go_wp2_with fail
                    clear v0 v1
                    rw [← HVE.out] at HV0 HV1 HVB HVL ⊢
                    generalize wy.alloc (.cells #[.int .i64 (PK : Int), .int .i64 (PD : Int), .int .i64 (PA : Int)] 33) = w7 at *
                    refine HDEL.out.mono ?_
                    rintro ex w8 ⟨rfl, hrow8, hg8⟩
                    have HO8 := Hid.mk hrow8
                    have HB8 := Hid.mk (Below.grown (bl2 HB.out HBy1.out) hg8 (bl2 HB.out HBy1.out).size (fun q hq => by cases hq; exact HGB.out))
                    have HBW8 := Hid.mk (bl2 HB2.out HB8.out)
                    have HW8 := Hid.mk (owns_beside (ownsRow_below HW.out HBy1.out) hg8 (fun q hq e => by have h1 := (HVW.out q hq).1; have h2 := HGL.out; have := Option.some.inj e; omega))
                    have hv0 := cell_grown hg8 (y := ⟨VB, 0, none⟩) HV0.out (by have := HVB.out; simp; omega)
                    have hv1 := cell_grown hg8 (y := ⟨VB, 1, none⟩) HV1.out (by have := HVB.out; simp; omega)
                    have HSZ8 : Hid (w5.heap.size ≤ w8.heap.size) := Hid.mk (by have := HSZ.out; have := HBy1.out.size; have := hg8.size; omega)
                    clear hrow8 hg8 HDEL HO HW HV0 HV1
                    obtain ⟨xT, hxT⟩ := HT.out.some hbd.1
                    have HTW : Hid (∀ W, Below w.heap.size w W → TkOn W (xT.add (PK * 5)) (l.getD PK noT)) := Hid.mk (fun W hb => (HT.out.kept hb).cell xT hxT PK hbd.1)
                    have HRK := HOK.out _ (getD_memT (show PK < l.length by have := hbd.1; have := HLN.out; omega))
                    have HTKW : Hid (∀ W, Below w.heap.size w W → Calls Tryd.prog 11 #[(l.getD PK noT).val] W fun e w' => e = .returned (.int .i64 (cN (l.getD PK noT) : Nat)) ∧ Below W.heap.size W w') := Hid.mk (fun W hb => ltakes_any _ W HRK (cell_kept hb HDB.out))
                    have HCT : Hid (Sb.cT l PK = cN (l.getD PK noT)) := Hid.mk rfl
                    have hcc := (okT_n HRK).2.1
                    subst hxT
                    generalize l.getD PK noT = r at *
                    generalize cN r = CC at *
                    obtain ⟨id, by_, ev, la, ji⟩ := r
                    unfold Tk.val at HTKW
                    simp only at HTKW
                    have hcI : (CC : Int) ≤ 135 := by omega
                    have hPKI : (PK : Int) < (i : Int) := by omega
                    have hPKI2 : (PK : Int) ≤ 20 := by omega
                    have hPDI : (PD : Int) ≤ 2000000 := by omega
                    have HSC : Hid ([.int .i64 (PK : Int), .int .i64 (PD : Int), .int .i64 (tm : Int), .int .i64 (IntKind.i64.wrap ((tm : Int) + (CC : Int)))] = slC (Sb.cT l) ⟨PK, PD, PA, tm⟩) := Hid.mk (by unfold slC; simp only [HCT.out]; rw [wrap_small (by omega) (by omega), Int.natCast_add])
                    have HKS : Hid (∀ W : World, Below w8.heap.size w8 W → W.cell? ⟨VB, 0, none⟩ = some (.int .i64 (PK : Int)) ∧ W.cell? ⟨VB, 1, none⟩ = some (.int .i64 (PD : Int)) ∧ W.cell? (xT.add (PK * 5)) = some (.int .i64 id) ∧ W.cell? ⟨(xT.add (PK * 5)).block, (xT.add (PK * 5)).off + 1, none⟩ = some (.int .i64 by_) ∧ W.cell? ⟨(xT.add (PK * 5)).block, (xT.add (PK * 5)).off + 2, none⟩ = some (.int .i64 ev) ∧ W.cell? ⟨(xT.add (PK * 5)).block, (xT.add (PK * 5)).off + 3, none⟩ = some (.int .i64 la) ∧ W.cell? ⟨(xT.add (PK * 5)).block, (xT.add (PK * 5)).off + 4, none⟩ = some (.int .i64 ji)) := Hid.mk (fun W hb => by
                      have h := HTW.out W (bl2 HBW8.out hb)
                      exact ⟨cell_kept hb hv0, cell_kept hb hv1, h.c0, h.c1, h.c2, h.c3, h.c4⟩)
                    have hS0 := HKS.out w8 (Below.refl _ _)
                    have HD1 : Hid (Below w8.heap.size w8 w8.drew) := Hid.mk (below_drD (Below.refl _ _) 1)
                    have HNV : Hid (∀ q, vW.ownBlock = some q → q ≠ VB ∧ w5.heap.size ≤ q) := Hid.mk (fun q hq => by have h1 := HVW.out q hq; have h2 := HVL.out; omega)
                    have HSX : Hid (∀ Wa W : World, Wa.grownBy W vW.ownBlock → Below w8.heap.size w8 Wa → Below w.heap.size w W → W.cell? ⟨VB, 0, none⟩ = some (.int .i64 (PK : Int)) ∧ W.cell? ⟨VB, 1, none⟩ = some (.int .i64 (PD : Int)) ∧ W.cell? (xT.add (PK * 5)) = some (.int .i64 id) ∧ W.cell? ⟨(xT.add (PK * 5)).block, (xT.add (PK * 5)).off + 1, none⟩ = some (.int .i64 by_) ∧ W.cell? ⟨(xT.add (PK * 5)).block, (xT.add (PK * 5)).off + 2, none⟩ = some (.int .i64 ev) ∧ W.cell? ⟨(xT.add (PK * 5)).block, (xT.add (PK * 5)).off + 3, none⟩ = some (.int .i64 la) ∧ W.cell? ⟨(xT.add (PK * 5)).block, (xT.add (PK * 5)).off + 4, none⟩ = some (.int .i64 ji)) := Hid.mk (fun Wa W hg hb hw => by
                      have h := HTW.out W hw
                      have hk := HKS.out _ hb
                      exact ⟨cell_grown hg hk.1 (fun e => (HNV.out _ e).1 rfl), cell_grown hg hk.2.1 (fun e => (HNV.out _ e).1 rfl), h.c0, h.c1, h.c2, h.c3, h.c4⟩)
                    clear hv0 hv1 hbd HRK
                    go_upto_region 46 with fail
                    go_cut [18] (fun s18 wx => Hid (wx.ownsRow w5.heap.size 38 4 s18 (S1 ++ [(⟨PK, PD, PA, tm⟩ : Sl)]).length (slCs (Sb.cT l) (S1 ++ [(⟨PK, PD, PA, tm⟩ : Sl)]))) ∧ Hid (wx.ownsRow w2.heap.size 33 3 (.slice (some ⟨g, 0, none⟩) (k' - 1) cap) (k' - 1) (akCs (A'.eraseIdx j))) ∧ Hid (Below w2.heap.size w2 wx) ∧ Hid (w5.heap.size ≤ wx.heap.size) ∧ Hid (wx.cell? ⟨VB, 0, none⟩ = some (.int .i64 (PK : Int)) ∧ wx.cell? ⟨VB, 1, none⟩ = some (.int .i64 (PD : Int)) ∧ wx.cell? (xT.add (PK * 5)) = some (.int .i64 id) ∧ wx.cell? ⟨(xT.add (PK * 5)).block, (xT.add (PK * 5)).off + 1, none⟩ = some (.int .i64 by_) ∧ wx.cell? ⟨(xT.add (PK * 5)).block, (xT.add (PK * 5)).off + 2, none⟩ = some (.int .i64 ev) ∧ wx.cell? ⟨(xT.add (PK * 5)).block, (xT.add (PK * 5)).off + 3, none⟩ = some (.int .i64 la) ∧ wx.cell? ⟨(xT.add (PK * 5)).block, (xT.add (PK * 5)).off + 4, none⟩ = some (.int .i64 ji)))
                    case first =>
                      refine r46_any xT i dT vW tm VB PK PD CC S1.length w5.heap.size id by_ ev la ji (slCs (Sb.cT l) S1) w8 (by omega) hPKI hPKI2 hPDI htmI hcI hSl HSZ8.out HW8.out HKS.out (fun W hb => HTKW.out W (bl2 HBW8.out hb)) ?_
                      rintro g5 c5 w10 ⟨Wa, hba, hgrow5, hown5⟩ r1 r2 r3 r4 r5 r6 r7 r8 r9 r10 r11 r12 r13 r14 r15 r16 r17
                      have HB10 := Hid.mk (Below.grown (bl2 HB8.out hba) hgrow5 (bl2 HB8.out hba).size (fun q hq => by have h1 := (HNV.out q hq).2; have h2 := HB5.out.size; omega))
                      have HW10 := Hid.mk (own_snS HSC.out hown5)
                      have HO10 := Hid.mk (owns_beside (ownsRow_below HO8.out hba) hgrow5 (fun q hq e => by have h1 := (HNV.out q e.symm).2; have h2 := HGL.out; have h3 : g = q := Option.some.inj hq; omega))
                      have HS10 := Hid.mk (HSX.out _ _ hgrow5 hba (bl2 HB2.out HB10.out))
                      have HSZ10 := Hid.mk (Nat.le_trans HSZ8.out (Nat.le_trans hba.size hgrow5.size))
                      clear hown5 hgrow5 hba
                      go_wp2_with fail
                      go_meet
                      case rel => exact ⟨HW10, HO10, HB10, HSZ10, HS10⟩
                    case rest =>
                      obtain ⟨HW10, HO10, HB10, HSZ10, HS10⟩ := hcut
                      rename World => w10
                      obtain ⟨y0, y1, y2, y3, y4, y5, y6⟩ := HS10.out
                      have HTK10 := Hid.mk (HTKW.out w10 (bl2 HB2.out HB10.out))
                      go_wp2_with fail
                      refine HTK10.out.mono ?_
                      rintro ex w11 ⟨rfl, hb11⟩
                      have HO11 := Hid.mk (ownsRow_below HO10.out hb11)
                      have HW11 := Hid.mk (ownsRow_below HW10.out hb11)
                      have HB11 := Hid.mk (bl2 HB10.out hb11)
                      have HSZ11 : Hid (w5.heap.size ≤ w11.heap.size) := Hid.mk (Nat.le_trans HSZ10.out hb11.size)
                      clear hb11
                      go_wp2_with fail
                      go_roundg (gk - 1)
                      case measure => have := HGK.out; omega
                      case rel => exact ⟨tm + CC, _, _, A'.eraseIdx j, S1 ++ [⟨PK, PD, PA, tm⟩], rfl, rfl, by go_num, by have := HGK.out; have := HEL.out; omega, by have := HCN.out; have := HEL.out; rw [List.length_append, List.length_singleton]; omega, by rw [List.length_append, List.length_singleton]; omega, Hid.mk (by rw [HEL.out]; exact HO11.out), Hid.mk (fun q hq => by cases hq; exact HGL.out), HW11, HB11, HSZ11, Hid.mk (by rw [← HCT.out]; exact HGO.out), HMM⟩
    · have hBZ : (bad == 0) = false := by simpa using hbn
      exact absurd HZ0.out (by rw [hZB]; exact hbn)
  end Bw
end Go.Proofs.YtnhnemmddgofnaaDoor
