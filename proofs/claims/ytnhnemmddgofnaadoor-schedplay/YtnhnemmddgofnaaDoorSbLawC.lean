/- The law SchedPlay where the first checks hold: those that are to go are told, one by one. -/
import Derived.Test.YtnhnemmddgofnaaDoorSbLawB
import Derived.Test.YtnhnemmddgofnaaDoorDwRef
import Derived.Deep.LoopGhost
import Derived.Deep.RegionHeld3
import Derived.Deep.AppendLies
import Derived.Deep.DeepCutAuto
import Derived.Lib.QuietBelow
import Derived.BigQuiet
namespace Go.Proofs.YtnhnemmddgofnaaDoor
open Go.ChangeShapes Go.WideShapes Go.ChangeAt Go.RowKit
namespace Bw
open Sb (Ms Sl asks)
set_option linter.unusedVariables false
set_option maxHeartbeats 32000000 in
set_option maxRecDepth 100000 in
theorem splay_okA (aT : Option Addr) (n dT : Nat) (l : List Tk) (aF : Option Addr) (nF cF : Nat) (fs : List Int) (a : Option Addr) (m c : Nat) (lt : List Int) (en : Int) (w : World) (hT : IsTks w aT n dT l) (hF : IsNs w aF nF cF fs) (hL : IsNs w a m c lt) (hS : SizesAt w) (hR : RulesAt w) (hD : w.cell? ⟨5, 1, none⟩ = some (.int .u8 1)) (h0 : chkT l = 0) (h1 : nF = n) (h2 : m ≤ 1000) (h3 : Sb.isTm en = true) (hzz : (playR l fs lt en).1 ≠ 0) :
    Calls Tryd.prog 3 #[.slice aT n dT, .slice aF nF cF, .slice a m c, .int .i64 en] w fun e w' => e = .returned (.bool true) ∧ Below w.heap.size w w' := by
  have HP := Hid.mk (play_any aT n dT l aF nF cF fs a m c lt en w hT hF hL hS hR)
  have HT := Hid.mk hT
  have HF := Hid.mk hF
  have HL := Hid.mk hL
  have HS := Hid.mk hS
  have HR := Hid.mk hR
  have HPL := Hid.mk (fun W (hb : Below w.heap.size w W) => played_any W (HS.out.kept hb) (HR.out.kept hb))
  have HLK := Hid.mk (fun W (hb : Below w.heap.size w W) => lchk_any aT n dT l W (HT.out.kept hb))
  have HDB := Hid.mk hD
  have hen := Sb.isTm_iff.1 h3
  obtain ⟨e, rfl⟩ : ∃ e : Nat, en = e := ⟨en.toNat, by omega⟩
  have hln := hT.len
  have hlf := hF.len
  have hlt := hL.len
  have HRR : Hid (playR l fs lt (e : Int) = Sb.runT lt e (l.zip fs) [] 1000 0) := Hid.mk (by unfold playR; rw [Int.toNat_natCast])
  have HE : Hid (playE l fs lt (e : Int) = (playR l fs lt (e : Int)).1) := Hid.mk (by unfold playE; rw [if_pos h0, if_pos ⟨by omega, by omega, h3⟩])
  have HFA := Hid.mk (play_facts (l := l) (fs := fs) (lt := lt) (en := (e : Int)))
  rw [Int.toNat_natCast] at HFA
  rw [HE.out] at HP HFA
  rw [h0] at HLK
  obtain ⟨Z, hZ⟩ : ∃ Z, Z = playR l fs lt (e : Int) := ⟨_, rfl⟩
  rw [← hZ] at HP HFA HRR hzz
  have HZ0 := Hid.mk hzz
  clear hzz
  have HOK := Hid.mk (chkT_ok h0).2
  have hn20 : n ≤ 20 := by have := (chkT_ok h0).1; omega
  have HLN := Hid.mk hln
  have HFL : Hid (fs.length = l.length) := Hid.mk (by omega)
  have HLL := Hid.mk hlt
  have HEB : Hid (e ≤ 1000000) := Hid.mk (by omega)
  have h2' : (m : Int) ≤ 1000 := by omega
  have heI : (e : Int) ≤ 1000000 := by omega
  have HC0 := Hid.mk h0
  subst h1
  obtain ⟨i0, hi0, hz0, hz1, hz2⟩ := info_partsD info_ak
  clear hZ hT hF hL hS hR hD h0 h2 h3 hln hlf hlt hen HE
  go_enter Tryd.func3, Tryd.ntmps3
  go_wp2_with fail
  refine HP.out.mono ?_
  rintro e w1 ⟨vS, S, rfl, hpi, hb1⟩
  have HPI := Hid.mk hpi
  have HB1 := Hid.mk hb1
  clear hpi hb1 HP
  go_wp2_with fail
  refine (HLK.out _ HB1.out).mono ?_
  rintro e w2 ⟨rfl, hb2⟩
  have HB2 := Hid.mk (bl2 HB1.out hb2)
  have HBC := Hid.mk hb2
  clear hb2 HLK
  go_wp2_with fail
  have HLO : Hid (LwO Z lt e (l.zip fs) 0 0 0 []) := Hid.mk (.inl ⟨rfl, [], 1000, rfl, rfl, rfl, Nat.le_refl _, by rw [HRR.out]; rfl⟩)
  go_loopw [11, 12, 13, 14] (fun s11 s12 s13 s14 wr => ∃ (bad : Int) (i kk : Nat) (vA : Value) (A : List Sb.Ask), s11 = .int .i64 bad ∧ vA = s12 ∧ s13 = .int .i64 kk ∧ s14 = .int .i64 i ∧ i ≤ nF ∧ kk ≤ 1001 ∧ Hid (wr.ownsRow w2.heap.size 33 3 vA A.length (akCs A)) ∧ Hid (Below w2.heap.size w2 wr) ∧ Hid (LwO Z lt e (l.zip fs) bad i kk A)) (fun _ _ _ i _ => nF - (intOf i).toNat)
  case atStart => exact ⟨0, 0, 0, _, [], rfl, rfl, rfl, rfl, Nat.zero_le _, Nat.zero_le _, Hid.mk (World.ownsRow_nil _ _ _ _), Hid.mk (Below.refl _ _), HLO⟩
  case round =>
    clear HLO
    obtain ⟨bad, i, kk, vA, A, rfl, rfl, rfl, rfl, hi, hkk, HO, HB, HLO⟩ := hrel
    rename World => wo
    rcases HLO.out with ⟨rfl, M, room, hML, hAM, hroom, hkA, hZM⟩ | ⟨hbn, hZB⟩
    · by_cases hlt : i < nF
      · have hlt' : (i : Int) < (nF : Int) := by omega
        obtain ⟨x, rfl⟩ := HT.out.some hlt
        obtain ⟨y, rfl⟩ := HF.out.some hlt
        have HBo := Hid.mk (bl2 HB2.out HB.out)
        obtain ⟨c0, c1, c2, c3, c4⟩ := (HT.out.kept HBo.out).cell x rfl i hlt
        obtain ⟨r, hr⟩ : ∃ r, r = l.getD i noT := ⟨_, rfl⟩
        obtain ⟨f, hf⟩ : ∃ f, f = fs.getD i 0 := ⟨_, rfl⟩
        rw [← hr] at c0 c1 c2 c3 c4
        have hrok := HOK.out r (by rw [hr]; exact getD_memT (by rw [HLN.out]; exact hlt))
        obtain ⟨q1, q2, q3, q4, q5, q6, q7, -⟩ := okT_n hrok
        have hb1 := awD wo (tkC r)
        have HB1' := Hid.mk (bl2 HBo.out hb1)
        have HV := Hid.mk (TkAt.new wo r)
        have f0 := (HF.out.kept HB1'.out).cell y rfl i hlt
        rw [← hf] at f0
        have HD : Hid (Z = if Sb.isTm f = true then Sb.runI r lt e (fun ms room k' => Sb.runT lt e ((l.zip fs).drop (i + 1)) (M ++ [ms]) room k') room [] f.toNat kk else (3, [])) := Hid.mk (by rw [hZM, zip_drop HFL.out (by rw [HLN.out]; exact hlt), ← hr, ← hf, Sb.runT])
        have HLR : Hid (LwR w2 (wo.alloc (tkC r)) wo.heap.size vA A) := Hid.mk ⟨bl2 HB.out hb1, ownsRow_below HO.out hb1, fun q hq e => by have := (HO.out.lt q hq).2; omega, by rw [allocQ]; omega⟩
        have HRE := Hid.mk hrok
        have HLL2 := Hid.mk hML
        have HAM := Hid.mk hAM
        have HRM := Hid.mk hroom
        have HKA := Hid.mk hkA
        obtain ⟨T, hTN⟩ : ∃ T, T = tN r := ⟨_, rfl⟩
        obtain ⟨J, hJN⟩ : ∃ J, J = jN r := ⟨_, rfl⟩
        rw [← hTN] at q3 q4 q5 q6
        rw [← hJN] at q5 q7
        have HTN := Hid.mk hTN
        have HJN := Hid.mk hJN
        have q3' : 1 ≤ (T : Int) := by omega
        have q4' : (T : Int) ≤ 1000000 := by omega
        have q5' : (J : Int) ≤ 999999 := by omega
        have q6' := q6
        have q7' := q7
        clear hr hf hb1 hrok q1 q2 q5 q6 q7 hTN hJN hML hAM hroom hkA hZM HLO HO
        obtain ⟨id, by_, ev, la, ji⟩ := r
        simp only at q6' q7'
        subst q6'
        subst q7'
        unfold tkC at HB1' HV HLR f0
        simp only at c0 c1 c2 c3 c4 HB1' HV HLR f0
        obtain ⟨g0, g1, g2, g3, g4⟩ := HV.out
        simp only at g0 g1 g2 g3 g4
        obtain ⟨W1, hW1⟩ : ∃ W1, W1 = wo.alloc (.cells #[.int .i64 id, .int .i64 by_, .int .i64 (T : Int), .int .i64 la, .int .i64 (J : Int)] 31) := ⟨_, rfl⟩
        have HW1 := Hid.mk hW1
        clear hW1
        obtain ⟨GV, hGV⟩ : ∃ GV, GV = wo.heap.size := ⟨_, rfl⟩
        have HGV := Hid.mk hGV
        clear hGV
        by_cases hq : Sb.isTm f = true
        · obtain ⟨F, rfl⟩ : ∃ F : Nat, f = F := ⟨f.toNat, by have := (Sb.isTm_iff.1 hq).1; omega⟩
          have hFb : (F : Int) ≤ 1000000 := (Sb.isTm_iff.1 hq).2
          have hF0 : ¬ ((F : Int) < 0) := by omega
          have hF1 : ¬ ((1000000 : Int) < (F : Int)) := by omega
          obtain ⟨K, hK⟩ : ∃ K : List Ms → Nat → Nat → Sb.AR, K = fun ms room k' => Sb.runT lt e ((l.zip fs).drop (i + 1)) (M ++ [ms]) room k' := ⟨_, rfl⟩
          have HKE := Hid.mk hK
          have HLI0 : Hid (LwI Z lt e ⟨id, by_, T, la, J⟩ K (asks M) 0 i F kk A) := Hid.mk (.inl ⟨rfl, [], room, by rw [HAM.out]; simp [mp], HRM.out, HKA.out, by rw [HD.out, if_pos hq, Int.toNat_natCast, hK]⟩)
          clear hK hq HD
          go_wp2_with fail
          clear f0 c0 c1 c2 c3 c4
          rw [← HW1.out] at HB1' HV HLR g0 g1 g2 g3 g4 ⊢
          rw [← HGV.out] at HV HLR g0 g1 g2 g3 g4 ⊢
          clear HW1 HGV
          go_loopw [11, 12, 13, 16] (fun s11 s12 s13 s16 wz => ∃ (bad : Int) (due kk' : Nat) (vA' : Value) (A' : List Sb.Ask), s11 = .int .i64 bad ∧ vA' = s12 ∧ s13 = .int .i64 kk' ∧ s16 = .int .i64 due ∧ due ≤ 2000000 ∧ kk' ≤ 1001 ∧ Hid (LwR w2 wz GV vA' A') ∧ Hid (TkAt wz GV ⟨id, by_, T, la, J⟩) ∧ Hid (LwI Z lt e ⟨id, by_, T, la, J⟩ K (asks M) bad i due kk' A')) (fun _ _ _ d _ => 3000000 - (intOf d).toNat)
          case atStart => exact ⟨0, F, kk, vA, A, rfl, rfl, rfl, rfl, by omega, hkk, HLR, HV, HLI0⟩
          case round =>
            clear HLI0
            obtain ⟨bad, due, kk', vA', A', rfl, rfl, rfl, rfl, hdue, hkk', HR', HX, HLI⟩ := hrel
            rename World => wz
            rcases HLI.out with ⟨rfl, ms, ro, hA', hro, hkA', hZI⟩ | ⟨hbn, hZB⟩
            · by_cases hd : due < e
              · have hd' : (due : Int) < (e : Int) := by omega
                have HAE := Hid.mk hA'
                have HRO := Hid.mk hro
                have HKA' := Hid.mk hkA'
                have HBAD : Hid (Sb.badL ⟨id, by_, T, la, J⟩ lt kk' = true → Z = (3, [])) := Hid.mk (fun h1 => by rw [hZI]; exact Sb.runI_bad hd h1)
                have HMANY : Hid (Sb.badL ⟨id, by_, T, la, J⟩ lt kk' = false → ro = 0 → Z = (2, [])) := Hid.mk (fun h1 h2 => by rw [hZI, h2]; exact Sb.runI_many hd h1)
                have HMORE : Hid (∀ r : Nat, Sb.badL ⟨id, by_, T, la, J⟩ lt kk' = false → ro = r + 1 → Z = Sb.runI ⟨id, by_, T, la, J⟩ lt e K r (ms ++ [(due, due + Sb.lateN ⟨id, by_, T, la, J⟩ lt kk')]) (due + T) (Sb.nextK ⟨id, by_, T, la, J⟩ lt kk')) := Hid.mk (fun r h1 h2 => by rw [hZI, h2, Sb.runI_more hd h1, ← HTN.out])
                obtain ⟨g0, g1, g2, g3, g4⟩ := HX.out
                simp only at g0 g1 g2 g3 g4
                have hduI : (due : Int) ≤ 2000000 := by omega
                have hkI : (kk' : Int) ≤ 1001 := by omega
                have hAl : A'.length ≤ 1000 := by omega
                have HJN' : Hid (jN ⟨id, by_, T, la, J⟩ = J) := Hid.mk HJN.out.symm
                clear hA' hro hkA' hZI HLI
                cases htk : Sb.takesL ⟨id, by_, T, la, J⟩ lt with
                | false =>
                  have HB0 : Hid (Sb.badL ⟨id, by_, T, la, J⟩ lt kk' = false) := Hid.mk (by unfold Sb.badL; rw [htk]; rfl)
                  have HLTE : Hid (Sb.lateN ⟨id, by_, T, la, J⟩ lt kk' = 0) := Hid.mk (by unfold Sb.lateN; rw [htk]; rfl)
                  have HNKE : Hid (Sb.nextK ⟨id, by_, T, la, J⟩ lt kk' = kk') := Hid.mk (by unfold Sb.nextK; rw [htk]; rfl)
                  have HSUM : Hid ((due : Int) = ((due + 0 : Nat) : Int)) := Hid.mk (by omega)
                  have hjm : J = 0 ∨ m = 0 := by
                    unfold Sb.takesL at htk
                    rw [HLL.out, HJN'.out] at htk
                    by_cases h1 : J = 0
                    · exact .inl h1
                    · by_cases h2 : m = 0
                      · exact .inr h2
                      · simp [h1, h2] at htk
                  clear htk
                  by_cases hj0 : J = 0
                  · have hjt : ¬ ((0 : Int) < (J : Int)) := by omega
                    clear hj0 hjm
                    rcases Nat.eq_zero_or_pos ro with hz | hz
                    · subst hz
                      have HZ3 := Hid.mk (HMANY.out HB0.out rfl)
                      have hlen : (1000 : Int) < ((A'.length + 1 : Nat) : Int) := by have := HRO.out; omega
                      clear HMORE HMANY HBAD
                      go_wp2_with (at_builtin
                                   refine wpList_append_two rfl (.tmp 132) (.tmp 137) 29 rfl w2.heap.size 33 i0 (.agg #[.int .i64 0, .int .i64 0, .int .i64 0]) 3 24 Tryd.underlying29 hi0 hz0 hz1 hz2 rfl (by decide) _ A'.length (akCs A') rfl (HR'.out.kept (awD wz _)).own ⟨wz.heap.size, 0, none⟩ 1 1 [.int .i64 (i : Int), .int .i64 (due : Int), .int .i64 (due : Int)] rfl rfl (three_newD wz _ _ _ _) (by intro u hu; simp at hu; rcases hu with rfl | rfl | rfl <;> rfl) (by decide) (by unfold maxLen; omega) (by omega) (HR'.out.kept (awD wz _)).below.size ?_
                                   intro v3 w3 hown1 hgrow1 hblk1
                                   have HR3 : Hid (LwR w2 w3 GV v3 (A' ++ [⟨i, due, due + 0⟩])) := Hid.mk ((HR'.out.kept (awD wz _)).app HSUM.out hown1 hgrow1 hblk1)
                                   have HX3 := Hid.mk ((HX.out.kept (awD wz _)).beside (HR'.out.kept (awD wz _)) hgrow1)
                                   obtain ⟨b3, d3, rfl⟩ := own_slice hown1 (by omega)
                                   clear hown1 hgrow1 hblk1
                                   obtain ⟨g0, g1, g2, g3, g4⟩ := HX3.out
                                   simp only at g0 g1 g2 g3 g4)
                      go_roundw
                      case rel => exact ⟨2, due + T, kk', _, A' ++ [⟨i, due, due + 0⟩], rfl, rfl, by go_num, by go_num, by omega, by have := HKA'.out; have := HRO.out; omega, HR3, HX3, Hid.mk (.inr ⟨by decide, HZ3.out⟩)⟩
                      case measure => simp [intOf]; omega
                    · obtain ⟨rr, rfl⟩ : ∃ rr, ro = rr + 1 := ⟨ro - 1, by omega⟩
                      have HZ3 := Hid.mk (HMORE.out rr HB0.out rfl)
                      rw [HLTE.out, HNKE.out] at HZ3
                      have hlen : ¬ ((1000 : Int) < ((A'.length + 1 : Nat) : Int)) := by have := HRO.out; omega
                      clear HMORE HMANY HBAD hz
                      go_wp2_with (at_builtin
                                   refine wpList_append_two rfl (.tmp 132) (.tmp 137) 29 rfl w2.heap.size 33 i0 (.agg #[.int .i64 0, .int .i64 0, .int .i64 0]) 3 24 Tryd.underlying29 hi0 hz0 hz1 hz2 rfl (by decide) _ A'.length (akCs A') rfl (HR'.out.kept (awD wz _)).own ⟨wz.heap.size, 0, none⟩ 1 1 [.int .i64 (i : Int), .int .i64 (due : Int), .int .i64 (due : Int)] rfl rfl (three_newD wz _ _ _ _) (by intro u hu; simp at hu; rcases hu with rfl | rfl | rfl <;> rfl) (by decide) (by unfold maxLen; omega) (by omega) (HR'.out.kept (awD wz _)).below.size ?_
                                   intro v3 w3 hown1 hgrow1 hblk1
                                   have HR3 : Hid (LwR w2 w3 GV v3 (A' ++ [⟨i, due, due + 0⟩])) := Hid.mk ((HR'.out.kept (awD wz _)).app HSUM.out hown1 hgrow1 hblk1)
                                   have HX3 := Hid.mk ((HX.out.kept (awD wz _)).beside (HR'.out.kept (awD wz _)) hgrow1)
                                   obtain ⟨b3, d3, rfl⟩ := own_slice hown1 (by omega)
                                   clear hown1 hgrow1 hblk1
                                   obtain ⟨g0, g1, g2, g3, g4⟩ := HX3.out
                                   simp only at g0 g1 g2 g3 g4)
                      go_roundw
                      case rel => exact ⟨0, due + T, kk', _, A' ++ [⟨i, due, due + 0⟩], rfl, rfl, by go_num, by go_num, by omega, by have := HKA'.out; have := HRO.out; omega, HR3, HX3, Hid.mk (.inl ⟨rfl, ms ++ [(due, due + 0)], rr, by rw [mp_snoc, HAE.out, List.append_assoc], by have := HRO.out; simp; omega, by have := HKA'.out; simp; omega, HZ3.out⟩)⟩
                      case measure => simp [intOf]; omega
                  · have hjt : (0 : Int) < (J : Int) := by omega
                    have hmz : ¬ ((0 : Int) < (m : Int)) := by omega
                    have hmz2 : ¬ (0 < m) := by omega
                    clear hj0 hjm
                    rcases Nat.eq_zero_or_pos ro with hz | hz
                    · subst hz
                      have HZ3 := Hid.mk (HMANY.out HB0.out rfl)
                      have hlen : (1000 : Int) < ((A'.length + 1 : Nat) : Int) := by have := HRO.out; omega
                      clear HMORE HMANY HBAD
                      go_wp2_with (at_builtin
                                   refine wpList_append_two rfl (.tmp 132) (.tmp 137) 29 rfl w2.heap.size 33 i0 (.agg #[.int .i64 0, .int .i64 0, .int .i64 0]) 3 24 Tryd.underlying29 hi0 hz0 hz1 hz2 rfl (by decide) _ A'.length (akCs A') rfl (HR'.out.kept (awD wz _)).own ⟨wz.heap.size, 0, none⟩ 1 1 [.int .i64 (i : Int), .int .i64 (due : Int), .int .i64 (due : Int)] rfl rfl (three_newD wz _ _ _ _) (by intro u hu; simp at hu; rcases hu with rfl | rfl | rfl <;> rfl) (by decide) (by unfold maxLen; omega) (by omega) (HR'.out.kept (awD wz _)).below.size ?_
                                   intro v3 w3 hown1 hgrow1 hblk1
                                   have HR3 : Hid (LwR w2 w3 GV v3 (A' ++ [⟨i, due, due + 0⟩])) := Hid.mk ((HR'.out.kept (awD wz _)).app HSUM.out hown1 hgrow1 hblk1)
                                   have HX3 := Hid.mk ((HX.out.kept (awD wz _)).beside (HR'.out.kept (awD wz _)) hgrow1)
                                   obtain ⟨b3, d3, rfl⟩ := own_slice hown1 (by omega)
                                   clear hown1 hgrow1 hblk1
                                   obtain ⟨g0, g1, g2, g3, g4⟩ := HX3.out
                                   simp only at g0 g1 g2 g3 g4)
                      go_roundw
                      case rel => exact ⟨2, due + T, kk', _, A' ++ [⟨i, due, due + 0⟩], rfl, rfl, by go_num, by go_num, by omega, by have := HKA'.out; have := HRO.out; omega, HR3, HX3, Hid.mk (.inr ⟨by decide, HZ3.out⟩)⟩
                      case measure => simp [intOf]; omega
                    · obtain ⟨rr, rfl⟩ : ∃ rr, ro = rr + 1 := ⟨ro - 1, by omega⟩
                      have HZ3 := Hid.mk (HMORE.out rr HB0.out rfl)
                      rw [HLTE.out, HNKE.out] at HZ3
                      have hlen : ¬ ((1000 : Int) < ((A'.length + 1 : Nat) : Int)) := by have := HRO.out; omega
                      clear HMORE HMANY HBAD hz
                      go_wp2_with (at_builtin
                                   refine wpList_append_two rfl (.tmp 132) (.tmp 137) 29 rfl w2.heap.size 33 i0 (.agg #[.int .i64 0, .int .i64 0, .int .i64 0]) 3 24 Tryd.underlying29 hi0 hz0 hz1 hz2 rfl (by decide) _ A'.length (akCs A') rfl (HR'.out.kept (awD wz _)).own ⟨wz.heap.size, 0, none⟩ 1 1 [.int .i64 (i : Int), .int .i64 (due : Int), .int .i64 (due : Int)] rfl rfl (three_newD wz _ _ _ _) (by intro u hu; simp at hu; rcases hu with rfl | rfl | rfl <;> rfl) (by decide) (by unfold maxLen; omega) (by omega) (HR'.out.kept (awD wz _)).below.size ?_
                                   intro v3 w3 hown1 hgrow1 hblk1
                                   have HR3 : Hid (LwR w2 w3 GV v3 (A' ++ [⟨i, due, due + 0⟩])) := Hid.mk ((HR'.out.kept (awD wz _)).app HSUM.out hown1 hgrow1 hblk1)
                                   have HX3 := Hid.mk ((HX.out.kept (awD wz _)).beside (HR'.out.kept (awD wz _)) hgrow1)
                                   obtain ⟨b3, d3, rfl⟩ := own_slice hown1 (by omega)
                                   clear hown1 hgrow1 hblk1
                                   obtain ⟨g0, g1, g2, g3, g4⟩ := HX3.out
                                   simp only at g0 g1 g2 g3 g4)
                      go_roundw
                      case rel => exact ⟨0, due + T, kk', _, A' ++ [⟨i, due, due + 0⟩], rfl, rfl, by go_num, by go_num, by omega, by have := HKA'.out; have := HRO.out; omega, HR3, HX3, Hid.mk (.inl ⟨rfl, ms ++ [(due, due + 0)], rr, by rw [mp_snoc, HAE.out, List.append_assoc], by have := HRO.out; simp; omega, by have := HKA'.out; simp; omega, HZ3.out⟩)⟩
                      case measure => simp [intOf]; omega
                | true =>
                  have hjm : J ≠ 0 ∧ m ≠ 0 := by
                    have := htk
                    unfold Sb.takesL at this
                    rw [HLL.out, HJN'.out] at this
                    simpa using this
                  obtain ⟨ya, hya⟩ := HL.out.some (i := kk' % m) (Nat.mod_lt _ (by omega))
                  have hcell := (HL.out.kept (bl2 HB2.out HR'.out.below)).cell ya hya (kk' % m) (Nat.mod_lt _ (by omega))
                  obtain ⟨V, hV⟩ : ∃ V, V = lt.getD (kk' % m) 0 := ⟨_, rfl⟩
                  rw [← hV] at hcell
                  have HBE : Hid (Sb.badL ⟨id, by_, T, la, J⟩ lt kk' = decide (V < 0)) := Hid.mk (by unfold Sb.badL Sb.lv; rw [htk, HLL.out, ← hV]; rfl)
                  have HLTE0 : Hid (Sb.lateN ⟨id, by_, T, la, J⟩ lt kk' = V.toNat % (J + 1)) := Hid.mk (by unfold Sb.lateN Sb.lv; rw [if_pos htk, HLL.out, ← hV, HJN'.out])
                  have HNKE : Hid (Sb.nextK ⟨id, by_, T, la, J⟩ lt kk' = kk' + 1) := Hid.mk (by unfold Sb.nextK; rw [if_pos htk])
                  have hkm := Nat.mod_lt kk' (show m > 0 by omega)
                  have e3 : (kk' : Int).tmod (m : Int) = ((kk' % m : Nat) : Int) := rfl
                  obtain ⟨KM, hKM⟩ : ∃ KM, KM = kk' % m := ⟨_, rfl⟩
                  rw [← hKM] at hcell hkm e3
                  have hkmI : (KM : Int) < (m : Int) := by omega
                  have e4 : IntKind.i64.wrap (KM : Int) = (KM : Int) := wrap_small (by omega) (by omega)
                  have hmm : ¬ (m : Int) = 0 := by omega
                  have hjt : (0 : Int) < (J : Int) := by omega
                  have hjt2 : 0 < J := by omega
                  have hmt : (0 : Int) < (m : Int) := by omega
                  have hmt2 : 0 < m := by omega
                  subst hya
                  clear hV hKM hjm htk
                  by_cases hv : V < 0
                  · have HZ3 := Hid.mk (HBAD.out (by rw [HBE.out]; exact decide_eq_true hv))
                    have HZN : Hid (LwO Z lt e (l.zip fs) 3 (i + 1) kk' A') := Hid.mk (.inr ⟨by decide, HZ3.out⟩)
                    clear HMORE HMANY HBAD
                    go_wp2_with fail
                    go_roundw
                    case rel => exact ⟨3, i + 1, kk', vA', A', rfl, rfl, rfl, by go_num, by omega, hkk', Hid.mk HR'.out.own, Hid.mk HR'.out.below, HZN⟩
                    case measure => simp [intOf]; omega
                  · have HB0 : Hid (Sb.badL ⟨id, by_, T, la, J⟩ lt kk' = false) := Hid.mk (by rw [HBE.out]; exact decide_eq_false hv)
                    obtain ⟨VN, hVN⟩ : ∃ VN : Nat, V = VN := ⟨V.toNat, by omega⟩
                    have e1 : V.tmod ((J : Int) + 1) = ((VN % (J + 1) : Nat) : Int) := by
                      rw [hVN, show ((J : Int) + 1) = ((J + 1 : Nat) : Int) by omega]
                      rfl
                    have hL1 := Nat.mod_lt VN (show J + 1 > 0 by omega)
                    have HLTE : Hid (Sb.lateN ⟨id, by_, T, la, J⟩ lt kk' = VN % (J + 1)) := Hid.mk (by rw [HLTE0.out, hVN, Int.toNat_natCast])
                    obtain ⟨LN, hLN⟩ : ∃ LN, LN = VN % (J + 1) := ⟨_, rfl⟩
                    rw [← hLN] at e1 hL1 HLTE
                    have hLb : (LN : Int) ≤ 999999 := by omega
                    have e2 : IntKind.i64.wrap (LN : Int) = (LN : Int) := wrap_small (by omega) (by omega)
                    have hjz : ¬ (J : Int) + 1 = 0 := by omega
                    have HSUM : Hid ((due : Int) + (LN : Int) = ((due + LN : Nat) : Int)) := Hid.mk (by omega)
                    have hkk2 : kk' + 1 ≤ 1001 := by have := HKA'.out; have := HRO.out; omega
                    clear hVN hLN hL1 hkk'
                    rcases Nat.eq_zero_or_pos ro with hz | hz
                    · subst hz
                      have HZ3 := Hid.mk (HMANY.out HB0.out rfl)
                      have hlen : (1000 : Int) < ((A'.length + 1 : Nat) : Int) := by have := HRO.out; omega
                      clear HMORE HMANY HBAD
                      go_wp2_with fail
                      go_quiet (fail)
                      have hbq := below_drD (Below.refl wz.heap.size wz) nq
                      have HRq := Hid.mk (HR'.out.kept hbq)
                      have HXq := Hid.mk (HX.out.kept hbq)
                      obtain ⟨g0, g1, g2, g3, g4⟩ := HXq.out
                      simp only at g0 g1 g2 g3 g4
                      generalize wz.drewN nq = wq at *
                      go_wp2_with (at_builtin
                                   refine wpList_append_two rfl (.tmp 132) (.tmp 137) 29 rfl w2.heap.size 33 i0 (.agg #[.int .i64 0, .int .i64 0, .int .i64 0]) 3 24 Tryd.underlying29 hi0 hz0 hz1 hz2 rfl (by decide) _ A'.length (akCs A') rfl (HRq.out.kept (awD wq _)).own ⟨wq.heap.size, 0, none⟩ 1 1 [.int .i64 (i : Int), .int .i64 (due : Int), .int .i64 ((due : Int) + (LN : Int))] rfl rfl (three_newD wq _ _ _ _) (by intro u hu; simp at hu; rcases hu with rfl | rfl | rfl <;> rfl) (by decide) (by unfold maxLen; omega) (by omega) (HRq.out.kept (awD wq _)).below.size ?_
                                   intro v3 w3 hown1 hgrow1 hblk1
                                   have HR3 : Hid (LwR w2 w3 GV v3 (A' ++ [⟨i, due, due + LN⟩])) := Hid.mk ((HRq.out.kept (awD wq _)).app HSUM.out hown1 hgrow1 hblk1)
                                   have HX3 := Hid.mk ((HXq.out.kept (awD wq _)).beside (HRq.out.kept (awD wq _)) hgrow1)
                                   obtain ⟨b3, d3, rfl⟩ := own_slice hown1 (by omega)
                                   clear hown1 hgrow1 hblk1
                                   obtain ⟨g0, g1, g2, g3, g4⟩ := HX3.out
                                   simp only at g0 g1 g2 g3 g4)
                      go_roundw
                      case rel => exact ⟨2, due + T, (kk' + 1), _, A' ++ [⟨i, due, due + LN⟩], rfl, rfl, by go_num, by go_num, by omega, by have := HKA'.out; have := HRO.out; omega, HR3, HX3, Hid.mk (.inr ⟨by decide, HZ3.out⟩)⟩
                      case measure => simp [intOf]; omega
                    · obtain ⟨rr, rfl⟩ : ∃ rr, ro = rr + 1 := ⟨ro - 1, by omega⟩
                      have HZ3 := Hid.mk (HMORE.out rr HB0.out rfl)
                      rw [HLTE.out, HNKE.out] at HZ3
                      have hlen : ¬ ((1000 : Int) < ((A'.length + 1 : Nat) : Int)) := by have := HRO.out; omega
                      clear HMORE HMANY HBAD hz
                      go_wp2_with fail
                      go_quiet (fail)
                      have hbq := below_drD (Below.refl wz.heap.size wz) nq
                      have HRq := Hid.mk (HR'.out.kept hbq)
                      have HXq := Hid.mk (HX.out.kept hbq)
                      obtain ⟨g0, g1, g2, g3, g4⟩ := HXq.out
                      simp only at g0 g1 g2 g3 g4
                      generalize wz.drewN nq = wq at *
                      go_wp2_with (at_builtin
                                   refine wpList_append_two rfl (.tmp 132) (.tmp 137) 29 rfl w2.heap.size 33 i0 (.agg #[.int .i64 0, .int .i64 0, .int .i64 0]) 3 24 Tryd.underlying29 hi0 hz0 hz1 hz2 rfl (by decide) _ A'.length (akCs A') rfl (HRq.out.kept (awD wq _)).own ⟨wq.heap.size, 0, none⟩ 1 1 [.int .i64 (i : Int), .int .i64 (due : Int), .int .i64 ((due : Int) + (LN : Int))] rfl rfl (three_newD wq _ _ _ _) (by intro u hu; simp at hu; rcases hu with rfl | rfl | rfl <;> rfl) (by decide) (by unfold maxLen; omega) (by omega) (HRq.out.kept (awD wq _)).below.size ?_
                                   intro v3 w3 hown1 hgrow1 hblk1
                                   have HR3 : Hid (LwR w2 w3 GV v3 (A' ++ [⟨i, due, due + LN⟩])) := Hid.mk ((HRq.out.kept (awD wq _)).app HSUM.out hown1 hgrow1 hblk1)
                                   have HX3 := Hid.mk ((HXq.out.kept (awD wq _)).beside (HRq.out.kept (awD wq _)) hgrow1)
                                   obtain ⟨b3, d3, rfl⟩ := own_slice hown1 (by omega)
                                   clear hown1 hgrow1 hblk1
                                   obtain ⟨g0, g1, g2, g3, g4⟩ := HX3.out
                                   simp only at g0 g1 g2 g3 g4)
                      go_roundw
                      case rel => exact ⟨0, due + T, (kk' + 1), _, A' ++ [⟨i, due, due + LN⟩], rfl, rfl, by go_num, by go_num, by omega, by have := HKA'.out; have := HRO.out; omega, HR3, HX3, Hid.mk (.inl ⟨rfl, ms ++ [(due, due + LN)], rr, by rw [mp_snoc, HAE.out, List.append_assoc], by have := HRO.out; simp; omega, by have := HKA'.out; simp; omega, HZ3.out⟩)⟩
                      case measure => simp [intOf]; omega
              · have hd' : ¬ ((due : Int) < (e : Int)) := by omega
                have HZN : Hid (LwO Z lt e (l.zip fs) 0 (i + 1) kk' A') := Hid.mk (.inl ⟨rfl, M ++ [ms], ro, by simp [HLL2.out], by rw [hA', asks_snoc, HLL2.out], hro, hkA', by rw [hZI, Sb.runI_end hd, HKE.out]⟩)
                clear hA' hro hkA' hZI HLI
                go_wp2_with fail
                go_roundw
                case rel => exact ⟨0, i + 1, kk', vA', A', rfl, rfl, rfl, by go_num, by omega, hkk', Hid.mk HR'.out.own, Hid.mk HR'.out.below, HZN⟩
                case measure => simp [intOf]; omega
            · have hBZ : (bad == 0) = false := by simpa using hbn
              have HZN : Hid (LwO Z lt e (l.zip fs) bad (i + 1) kk' A') := Hid.mk (.inr ⟨hbn, hZB⟩)
              clear hbn hZB HLI
              go_wp2_with fail
              go_roundw
              case rel => exact ⟨bad, i + 1, kk', vA', A', rfl, rfl, rfl, by go_num, by omega, hkk', Hid.mk HR'.out.own, Hid.mk HR'.out.below, HZN⟩
              case measure => simp [intOf]; omega
        · by_cases hf0 : f < 0
          · have HZ3 : Hid (Z = (3, [])) := Hid.mk (by rw [HD.out, if_neg hq])
            clear HD hq
            go_wp2_with fail
            clear f0 c0 c1 c2 c3 c4
            rw [← HW1.out] at HB1' HV HLR g0 g1 g2 g3 g4 ⊢
            rw [← HGV.out] at HV HLR g0 g1 g2 g3 g4 ⊢
            clear HW1 HGV
            have HBo2 := Hid.mk (HLR.out.below)
            have HO2 := Hid.mk HLR.out.own
            go_loopw [11, 12, 13] (fun s11 s12 s13 wz => s11 = .int .i64 3 ∧ s12 = vA ∧ s13 = .int .i64 kk ∧ Hid (wz = W1)) (fun _ _ _ _ => 0)
            case atStart => exact ⟨rfl, rfl, rfl, Hid.mk rfl⟩
            case round =>
              obtain ⟨rfl, rfl, rfl, HWE⟩ := hrel
              rename World => wz
              have hwe := HWE.out
              subst hwe
              clear HWE
              go_wp2_with fail
              go_roundw
              case rel => exact ⟨3, i + 1, kk, _, A, rfl, rfl, rfl, by go_num, by omega, hkk, HO2, HBo2, Hid.mk (.inr ⟨by decide, HZ3.out⟩)⟩
              case measure => simp [intOf]; omega
          · have hf1 : 1000000 < f := by
              rcases Int.lt_or_le 1000000 f with h | h
              · exact h
              · exact absurd (Sb.isTm_iff.2 ⟨by omega, h⟩) hq
            have HZ3 : Hid (Z = (3, [])) := Hid.mk (by rw [HD.out, if_neg hq])
            clear HD hq
            go_wp2_with fail
            clear f0 c0 c1 c2 c3 c4
            rw [← HW1.out] at HB1' HV HLR g0 g1 g2 g3 g4 ⊢
            rw [← HGV.out] at HV HLR g0 g1 g2 g3 g4 ⊢
            clear HW1 HGV
            have HBo2 := Hid.mk (HLR.out.below)
            have HO2 := Hid.mk HLR.out.own
            go_loopw [11, 12, 13] (fun s11 s12 s13 wz => s11 = .int .i64 3 ∧ s12 = vA ∧ s13 = .int .i64 kk ∧ Hid (wz = W1)) (fun _ _ _ _ => 0)
            case atStart => exact ⟨rfl, rfl, rfl, Hid.mk rfl⟩
            case round =>
              obtain ⟨rfl, rfl, rfl, HWE⟩ := hrel
              rename World => wz
              have hwe := HWE.out
              subst hwe
              clear HWE
              go_wp2_with fail
              go_roundw
              case rel => exact ⟨3, i + 1, kk, _, A, rfl, rfl, rfl, by go_num, by omega, hkk, HO2, HBo2, Hid.mk (.inr ⟨by decide, HZ3.out⟩)⟩
              case measure => simp [intOf]; omega
      · obtain rfl : i = nF := by omega
        have HZM : Hid (Z = (0, M)) := Hid.mk (by rw [hZM, List.drop_eq_nil_of_le (by rw [List.length_zip, HLN.out]; exact Nat.min_le_left _ _), Sb.runT])
        exact absurd (by rw [HZM.out]) HZ0.out
    · have hBZ : (bad == 0) = false := by simpa using hbn
      have hBN : (bad != 0) = true := by simpa using hbn
      subst hZB
      have hv := HPI.out.no hbn
      subst hv
      have HBW := Hid.mk (bl2 HB2.out HB.out)
      clear hbn HO HLO HFA HRR
      go_wp2_with fail
      refine (HPL.out _ HBW.out).mono ?_
      rintro e w5 ⟨rfl, hb5⟩
      have HB5 := Hid.mk (bl2 HBW.out hb5)
      clear hb5
      go_wp2_with fail
      refine (HPL.out _ HB5.out).mono ?_
      rintro e w6 ⟨rfl, hb6⟩
      have HB6 := Hid.mk (bl2 HB5.out hb6)
      clear hb6
      go_wp2_with fail
      go_ret
      exact ⟨by simp, HB6.out⟩
theorem splay_ok (aT : Option Addr) (n dT : Nat) (l : List Tk) (aF : Option Addr) (nF cF : Nat) (fs : List Int) (a : Option Addr) (m c : Nat) (lt : List Int) (en : Int) (w : World) (hT : IsTks w aT n dT l) (hF : IsNs w aF nF cF fs) (hL : IsNs w a m c lt) (hS : SizesAt w) (hR : RulesAt w) (hD : w.cell? ⟨5, 1, none⟩ = some (.int .u8 1)) (h0 : chkT l = 0) (h1 : nF = n) (h2 : m ≤ 1000) (h3 : Sb.isTm en = true) :
    Calls Tryd.prog 3 #[.slice aT n dT, .slice aF nF cF, .slice a m c, .int .i64 en] w fun e w' => e = .returned (.bool true) ∧ Below w.heap.size w w' := by
  by_cases hzz : (playR l fs lt en).1 = 0
  · exact splay_okB aT n dT l aF nF cF fs a m c lt en w hT hF hL hS hR hD h0 h1 h2 h3 hzz
  · exact splay_okA aT n dT l aF nF cF fs a m c lt en w hT hF hL hS hR hD h0 h1 h2 h3 hzz
end Bw
end Go.Proofs.YtnhnemmddgofnaaDoor
