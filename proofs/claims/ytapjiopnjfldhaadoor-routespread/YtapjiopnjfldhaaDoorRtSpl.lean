/- The law RouteSpread. -/
import Derived.Test.YtapjiopnjfldhaaDoorRtRoundM
import Derived.Test.YtapjiopnjfldhaaDoorRtLed
import Derived.Test.YtapjiopnjfldhaaDoorA17
import Derived.Test.YtapjiopnjfldhaaDoorRefFrame
import Derived.Test.YtapjiopnjfldhaaDoorRtLaw1
import Derived.Test.YtapjiopnjfldhaaDoorA18
import Derived.Test.YtapjiopnjfldhaaDoorA19
import Derived.Deep.LoopGhost
import Derived.Deep.DeepCutAuto
namespace Go.Proofs.YtapjiopnjfldhaaDoor
open Go.ChangeShapes Go.WideShapes Go.ChangeAt Go.RowKit
namespace Bw
open Bm Cm
set_option linter.unusedVariables false
set_option maxHeartbeats 16000000 in
set_option maxRecDepth 100000 in
theorem rspread_any (a : Option Addr) (n c : Nat) (rs : List Rt) (bus id : Int) (lo fa re : Bool) (sz : Int) (fa0 : Option Addr) (len cap : Nat) (dt : List UInt8) (w : World) (hR : IsRts w a n c rs) (hL : LastsAt w) (hS : SizesAt w) (hD : IsBytes w fa0 len cap dt) (hn : n ≤ 2513169434843) :
    Calls Tryd.prog 4 #[.slice a n c, .int .i64 bus, frameV id lo fa re sz fa0 len cap] w fun e w' => e = .returned (.bool true) ∧ Below w.heap.size w w' := by
  obtain ⟨i0, hi, hz0, hz1, hz2⟩ := info_parts info_intF
  have hlen : len ≤ maxLen := Nat.le_trans hD.2.1 hD.2.2.1
  have hb0 := awB w (frameC id lo fa re sz fa0 len cap)
  have HF0 := Hid.mk (Row6.new w id lo fa re sz fa0 len cap)
  have HB0 := Hid.mk hb0
  have HWO := Hid.mk (spread_any sortLn a n c rs bus id lo fa re sz fa0 len cap dt _ (hR.kept hb0) (hL.kept hb0) (hS.kept hb0) (isBytes_below hD hb0) (by omega))
  have HLF := Hid.mk (fun (b9 : Option Addr) (d9 : Nat) (W : World) (h : Below w.heap.size w W) (h9 : IsNums W b9 n d9 (neg1 n)) => lgate_any a n c b9 n d9 rs (neg1 n) W (hR.kept h) h9 (hL.kept h))
  have HCF := Hid.mk (fun (W : World) => checkFrame_any id lo fa re sz fa0 len cap W (by have := hlen; unfold maxLen at this; omega))
  have HR0 := Hid.mk (hR.kept hb0)
  have HL0 := Hid.mk (hL.kept hb0)
  have HS0 := Hid.mk (hS.kept hb0)
  have HD0 := Hid.mk (isBytes_below hD hb0)
  have HLN := Hid.mk hR.len
  have HN := Hid.mk hn
  have HDL := Hid.mk (fun W h1 h2 => routed_any W h1 h2)
  have hn63 : (n : Int) ≤ 2513169434843 := by omega
  obtain ⟨G, hGG⟩ : ∃ G, G = chkG rs (neg1 n) := ⟨_, rfl⟩
  obtain ⟨FE, hFE⟩ : ∃ FE, FE = frEn id lo fa re sz len := ⟨_, rfl⟩
  rw [← hGG] at HLF
  rw [← hFE] at HCF
  have HGE := Hid.mk hGG
  have HFE := Hid.mk hFE
  unfold frameC at HF0 HR0 HL0 HS0 HD0 HB0 HWO
  unfold frameV at HWO HCF ⊢
  unfold gaV at HLF
  obtain ⟨q0, q1, q2, q3, q4, q5⟩ := HF0.out.fr
  clear hR hL hS hD hb0 hn hlen hGG hFE
  go_enter Tryd.func4, Tryd.ntmps4
  go_wp2_with fail
  generalize w.alloc (.cells #[.int .i64 id, .bool lo, .bool fa, .bool re, .int .i64 sz, .slice fa0 len cap] 28) = W0 at *
  refine HWO.out.mono ?_
  rintro e w1 ⟨⟨a1, n1, c1, E1, rfl, hsp1⟩, hb1⟩
  have hba := awB w1 (gaC a n c none 0 0)
  have HB1 := Hid.mk (bl2 HB0.out hb1)
  have HR1 := Hid.mk (HR0.out.kept hb1)
  have HL1 := Hid.mk (HL0.out.kept hb1)
  have HS1 := Hid.mk (HS0.out.kept hb1)
  have HD1 := Hid.mk (isBytes_below HD0.out hb1)
  have HF1 := Hid.mk (HF0.out.kept hb1)
  have HSP := Hid.mk hsp1
  have HFR := Hid.mk (Row2.new w1 (.slice a n c) (.slice none 0 0))
  have HBA := Hid.mk hba
  have HSS : Hid ((w1.alloc (gaC a n c none 0 0)).heap.size = w1.heap.size + 1) := Hid.mk (by simp)
  unfold gaC at HBA HSS
  clear hba hb1 hsp1 HWO HR0 HL0 HS0 HD0 HF0 HB0 q0 q1 q2 q3 q4 q5
  go_wp2_with fail
  generalize w1.alloc (.cells #[.slice a n c, .slice none 0 0] 25) = W1 at *
  go_loopw [43] (fun i wr => ∃ (k : Nat) (v : Value), k ≤ n ∧ i = .int .i64 k ∧ Hid (Row2 wr w1.heap.size (.slice a n c) v) ∧ Hid (wr.ownsRow (w1.heap.size + 1) 3 1 v k (numC (neg1 k))) ∧ Hid (w1.heap.size + 1 ≤ wr.heap.size) ∧ Hid (Below w1.heap.size w1 wr)) (fun i _ => n - (intOf i).toNat)
  case atStart => exact ⟨0, _, Nat.zero_le _, rfl, HFR, Hid.mk (World.ownsRow_nil _ _ _ _), Hid.mk (by rw [HSS.out]; exact Nat.le_refl _), HBA⟩
  case round =>
    clear HFR HSS HBA
    obtain ⟨k, v, hk, rfl, HFR, HO, HS2, HBW⟩ := hrel
    by_cases hlt : k < n
    · have hlt' : (k : Int) < (n : Int) := by omega
      obtain ⟨k0, k1⟩ := HFR.out.cells
      have hba := awB wr (.cells #[.int .i64 (-1)] 3)
      obtain ⟨j0, j1⟩ := (HFR.out.kept hba).cells
      clear hba
      go_wp2_with (
         at_builtin
         refine wpList_append_own _ rfl (.tmp 46) (.tmp 47) 23 rfl (w1.heap.size + 1) 3 i0 (.int .i64 0) 1 8 Tryd.underlying23 hi hz0 hz1 hz2 rfl (by decide) _ _ _ rfl (HO.out.alloc _) ⟨wr.heap.size, 0, none⟩ 1 1 [Value.int .i64 (-1)] rfl rfl (one_int wr _ _) (by intro u hu; simp at hu; subst hu; rfl) (by have := HN.out; unfold maxLen; omega) (by have := HN.out; omega) (by have := HS2.out; simp; omega) ?_
         intro v6 w6 hown6 hgrow6 _
         have hB6 : Below (w1.heap.size + 1) wr w6 := Below.grown ((Below.refl _ wr).alloc HS2.out _) hgrow6 (by have := HS2.out; simp; omega) (fun q hq => (HO.out.lt q hq).1)
         have HF6 := Hid.mk (HFR.out.keptB hB6 (by omega))
         have HB6 : Hid (Below w1.heap.size w1 w6) := Hid.mk (HBW.out.trans ⟨hB6.os, hB6.tape, hB6.output, hB6.size, fun q hq => hB6.block q (by omega)⟩)
         have HS6 : Hid (w1.heap.size + 1 ≤ w6.heap.size) := Hid.mk (Nat.le_trans HS2.out hB6.size)
         rw [neg1_add] at hown6
         obtain ⟨g6, c6, rfl, -, -⟩ := own_slice hown6 (Nat.succ_pos _)
         have HO6 := Hid.mk hown6
         have y1 := HF6.out.cells.2
         have f1 := HF6.out.frozen 1
         clear hown6 hgrow6 hB6)
      have HF7 := Hid.mk (HF6.out.set1 (.slice (some ⟨g6, 0, none⟩) (k + 1) c6))
      have HO7 := Hid.mk (owns_setB HO6.out (a := ⟨w1.heap.size, 1, none⟩) (show w1.heap.size < w1.heap.size + 1 by omega) (.slice (some ⟨g6, 0, none⟩) (k + 1) c6))
      have HB7 := Hid.mk (HB6.out.setCell (p := ⟨w1.heap.size, 1, none⟩) (Nat.le_refl _) (.slice (some ⟨g6, 0, none⟩) (k + 1) c6))
      go_wp2_with fail
      go_roundw
      case rel => exact ⟨k + 1, _, by omega, by go_num, HF7, HO7, by simpa using HS6, HB7⟩
      case measure => simp [intOf]; omega
    · obtain rfl : n = k := by omega
      obtain ⟨b9, d9, hv, hN⟩ := nums_own (l := neg1 n) (by rw [neg1_len]; exact HO.out)
      rw [neg1_len] at hv hN
      subst hv
      have HBr := Hid.mk (bl2 HB1.out HBW.out)
      have HLr := Hid.mk (HL1.out.kept HBW.out)
      have HSr := Hid.mk (HS1.out.kept HBW.out)
      have HFr := Hid.mk (HF1.out.kept HBW.out)
      have HRr := Hid.mk (HR1.out.kept HBW.out)
      have HDr := Hid.mk (isBytes_below HD1.out HBW.out)
      have HSPr := Hid.mk (HSP.out.kept HBW.out)
      have HLF5 := Hid.mk (HLF.out b9 d9 wr HBr.out hN)
      obtain ⟨k0, k1⟩ := HFR.out.cells
      clear hN HO HBW HB1 HL1 HS1 HF1 HR1 HD1 HSP HLF
      rename World => wo
      go_wp2_with fail
      refine HLF5.out.mono ?_
      rintro e w4 ⟨rfl, hb4⟩
      have HB4 := Hid.mk (bl2 HBr.out hb4)
      have HL4 := Hid.mk (HLr.out.kept hb4)
      have HS4 := Hid.mk (HSr.out.kept hb4)
      have HF4 := Hid.mk (HFr.out.kept hb4)
      have HR4 := Hid.mk (HRr.out.kept hb4)
      have HD4 := Hid.mk (isBytes_below HDr.out hb4)
      have HSP := Hid.mk (HSPr.out.kept hb4)
      clear hb4 HBr HLr HSr HFr HRr HDr HSPr HLF5 HFR k0 k1
      by_cases hG : G = 0
      · subst hG
        obtain ⟨q0, q1, q2, q3, q4, q5⟩ := HF4.out.fr
        go_wp2_with fail
        refine (HCF.out _).mono ?_
        rintro e w6 ⟨rfl, hb6⟩
        have HB6 := Hid.mk (bl2 HB4.out hb6)
        have HL6 := Hid.mk (HL4.out.kept hb6)
        have HS6 := Hid.mk (HS4.out.kept hb6)
        have HF6 := Hid.mk (HF4.out.kept hb6)
        have HR6 := Hid.mk (HR4.out.kept hb6)
        have HD6 := Hid.mk (isBytes_below HD4.out hb6)
        have HSP := Hid.mk (HSP.out.kept hb6)
        clear hb6 HB4 HL4 HS4 HF4 HR4 HD4 HCF q0 q1 q2 q3 q4 q5
        by_cases hF : FE = 0
        · subst hF
          by_cases u0 : bus < 0
          · have hV0 : (3 : Int) ≠ 0 := by decide
            have hsp : spE rs bus id lo fa re sz len = 3 := (by unfold spE; rw [HLN.out, ← HGE.out, ← HFE.out, show busB bus = false from by (unfold busB; rw [decide_eq_false]; omega)]; simp)
            obtain ⟨hE1, hn1⟩ := HSP.out.bad (by rw [hsp]; exact hV0)
            rw [hsp] at hE1
            subst hE1
            subst hn1
            clear hsp hV0 HSP
            go_wp2_with fail
            refine (HDL.out _ HL6.out HS6.out).mono ?_
            rintro e w8 ⟨rfl, hb8⟩
            have HB8 := Hid.mk (bl2 HB6.out hb8)
            have HL8 := Hid.mk (HL6.out.kept hb8)
            have HS8 := Hid.mk (HS6.out.kept hb8)
            clear hb8
            go_wp2_with fail
            refine (HDL.out _ HL8.out HS8.out).mono ?_
            rintro e w9 ⟨rfl, hb9⟩
            have HB9 := Hid.mk (bl2 HB8.out hb9)
            clear hb9
            go_wp2_with fail
            refine bodyPost_ret (results_tmp rfl _ _ _) rfl ?_
            exact ⟨by first | rfl | simp, HB9.out⟩
          by_cases u1 : 3 < bus
          · have hV0 : (3 : Int) ≠ 0 := by decide
            have hsp : spE rs bus id lo fa re sz len = 3 := (by unfold spE; rw [HLN.out, ← HGE.out, ← HFE.out, show busB bus = false from by (unfold busB; rw [decide_eq_false]; omega)]; simp)
            obtain ⟨hE1, hn1⟩ := HSP.out.bad (by rw [hsp]; exact hV0)
            rw [hsp] at hE1
            subst hE1
            subst hn1
            clear hsp hV0 HSP
            go_wp2_with fail
            refine (HDL.out _ HL6.out HS6.out).mono ?_
            rintro e w8 ⟨rfl, hb8⟩
            have HB8 := Hid.mk (bl2 HB6.out hb8)
            have HL8 := Hid.mk (HL6.out.kept hb8)
            have HS8 := Hid.mk (HS6.out.kept hb8)
            clear hb8
            go_wp2_with fail
            refine (HDL.out _ HL8.out HS8.out).mono ?_
            rintro e w9 ⟨rfl, hb9⟩
            have HB9 := Hid.mk (bl2 HB8.out hb9)
            clear hb9
            go_wp2_with fail
            refine bodyPost_ret (results_tmp rfl _ _ _) rfl ?_
            exact ⟨by first | rfl | simp, HB9.out⟩
          have hsp0 : spE rs bus id lo fa re sz len = 0 := by
            unfold spE
            rw [HLN.out, ← HGE.out, ← HFE.out]
            have hbb : busB bus = true := by unfold busB; rw [decide_eq_true]; omega
            simp [hbb]
          go_wp2_with fail
          refine (HDL.out _ HL6.out HS6.out).mono ?_
          rintro e w8 ⟨rfl, hb8⟩
          have HSP8 := Hid.mk (HSP.out.kept hb8)
          clear HSP
          obtain ⟨P, bR, hW0, hPF0, hRd0, hs1, hs2, hs3⟩ := HSP8.out.ok hsp0
          obtain ⟨nx, hnx⟩ : ∃ nx : Pl → List Pl, nx = nxt rs lo fa re sz len := ⟨_, rfl⟩
          rw [← hnx] at hW0 hRd0
          have HW := Hid.mk hW0
          have HPF := Hid.mk hPF0
          have HRD := Hid.mk hRd0
          have HA1 := Hid.mk hs1
          have HA2 := Hid.mk hs2
          have HA3 := Hid.mk hs3
          have HNX := Hid.mk hnx
          clear hW0 hPF0 hRd0 hs1 hs2 hs3 hnx HSP8 hsp0
          have HB8 := Hid.mk (bl2 HB6.out hb8)
          have HL8 := Hid.mk (HL6.out.kept hb8)
          have HS8 := Hid.mk (HS6.out.kept hb8)
          have HF8 := Hid.mk (HF6.out.kept hb8)
          have HR8 := Hid.mk (HR6.out.kept hb8)
          have HD8 := Hid.mk (isBytes_below HD6.out hb8)
          clear hb8 HB6 HL6 HS6 HF6 HR6 HD6
          have hmm := @run_makeMap Tryd.prog
          have hbm := awB w8 (.map #[] 0)
          obtain ⟨q0, q1, q2, q3, q4, q5⟩ := (HF8.out.kept hbm).fr
          have hbq := awB (w8.alloc (.map #[] 0)) (.cells #[.int .i64 bus, .int .i64 id] 56)
          have hchk := HGE.out.symm
          have HN20 : Hid (rs.length ≤ 20) := Hid.mk (by unfold chkG at hchk; split at hchk; (· cases hchk); (· omega))
          have HALL : Hid (allR rs (neg1 n) = true) := Hid.mk (by
            unfold chkG at hchk
            split at hchk
            · cases hchk
            · split at hchk
              · cases hchk
              · split at hchk
                · assumption
                · cases hchk)
          have HLM : Hid (len ≤ maxLen) := Hid.mk (Nat.le_trans HD8.out.2.1 HD8.out.2.2.1)
          clear hchk
          have HSP := Hid.mk (SpW.start w8 bus id (fun _ => undef) (fun _ => 0) (fun _ => []))
          have HB9 := Hid.mk (bl2 hbm hbq)
          have HS9 : Hid (w8.heap.size + 1 ≤ ((w8.alloc (.map #[] 0)).alloc (.cells #[.int .i64 bus, .int .i64 id] 56)).heap.size) := Hid.mk (by simp)
          have HBF := Hid.mk (Bfx.new nx (bus, id))
          have hK0 : okQ (bus, id) ∧ frEn id lo fa re sz len = 0 := by
            refine ⟨HW.out.ok _ ?_, HFE.out.symm⟩
            obtain ⟨l, hl⟩ := web_head HW.out
            rw [hl]; exact List.mem_cons_self
          have HK0 := Hid.mk hK0
          clear hbm hbq hK0
          go_wp2_with fail
          generalize (w8.alloc (.map #[] 0)).alloc (.cells #[.int .i64 bus, .int .i64 id] 56) = W9 at *
          clear q0 q1 q2 q3 q4 q5
          go_loopg [12] 63100 (fun gk vq wr => ∃ (S : List Pl) (Wk : List Pl) (D : DVp) (V : Pl → Value) (G : Pl → Nat) (F : Pl → List Pl) (g : Nat), (3001 - S.length) * 21 + Wk.length ≤ gk ∧ gk ≤ 63100 ∧ Hid (SpW wr (w8.heap.size + 1) w8.heap.size g S D V G F vq Wk) ∧ Hid (∀ p ∈ S, F p = nx p) ∧ Hid (Bfx nx (bus, id) S Wk) ∧ Hid (∀ p ∈ Wk, okQ p ∧ frEn p.2 lo fa re sz len = 0) ∧ Hid (w8.heap.size + 1 ≤ wr.heap.size) ∧ Hid (Below w8.heap.size w8 wr))
          case atStart => exact ⟨[], [(bus, id)], .map [], _, _, _, w8.heap.size + 1, by simp, Nat.le_refl _, HSP, Hid.mk (fun p hp => by cases hp), HBF, Hid.mk (fun p hp => by rw [List.mem_singleton] at hp; subst hp; exact HK0.out), HS9, HB9⟩
          case round =>
            clear HSP HBF HS9 HB9
            obtain ⟨S, Wk, D, V, G, F, g, hgk, hgm, HSP, HFN, HBF, HKW, HSZ, HB⟩ := hrel
            have HGK := Hid.mk hgk
            have HGM := Hid.mk hgm
            clear hgk hgm
            have HLEN := Hid.mk (sq_len HSP.out.map HSP.out.nx)
            cases Wk with
            | nil =>
              obtain ⟨offE, cE, curE, hvE, -⟩ := HSP.out.qu.ex
              subst hvE
              by_cases hmany : 1000 < S.length
              · have hlen := HLEN.out 3
                have hm := HBF.out.many HW.out (by omega)
                have hEQ : (E1 = 2 ∨ E1 = 13) ∧ n1 = 0 := by
                  cases bR with
                  | true => have := HA1.out rfl; omega
                  | false => have := HA2.out rfl hm; omega
                obtain ⟨hE, rfl⟩ := hEQ
                have hgt : (1000 : Int) < ((S.length : Nat) : Int) := by omega
                have HBE := Hid.mk (bl2 HB8.out HB.out)
                clear HSP HFN HBF HKW HSZ HB
                rcases hE with rfl | rfl
                · go_wp2_with fail
                  refine bodyPost_ret (results_tmp rfl _ _ _) rfl ?_
                  exact ⟨by first | rfl | simp, HBE.out⟩
                · go_wp2_with fail
                  refine bodyPost_ret (results_tmp rfl _ _ _) rfl ?_
                  exact ⟨by first | rfl | simp, HBE.out⟩
              · have hlen := HLEN.out 3
                have hfin := HBF.out.fin HW.out (by omega)
                have HPS := Hid.mk hfin.1
                have HPL := Hid.mk hfin.2
                have hSLi : ((S.length : Nat) : Int) ≤ 1000 := by omega
                have HSL : Hid (S.length ≤ 1000) := Hid.mk (by omega)
                have HSQ := Hid.mk HSP.out
                have HNXD := Hid.mk HSP.out.nx
                have HOKS := Hid.mk HSP.out.ok
                have HCLO : Hid (∀ p ∈ S, ∀ q ∈ nx p, q ∈ S) := Hid.mk (fun p hp q hq => (HBF.out.closed p hp q hq).resolve_right (by simp))
                have HBML : Hid (w8.heap.size < wr.heap.size) := Hid.mk HSP.out.map.lt
                have hmm := @run_makeMap Tryd.prog
                have hb1 := awB wr (.map #[] 0)
                have hb2 := awB (wr.alloc (.map #[] 0)) (.cells #[.map (some wr.heap.size)] 59)
                have hv := heap_alloc_new (wr.alloc (.map #[] 0)) (.cells #[.map (some wr.heap.size)] 59)
                rw [size_alloc] at hv
                have HVL := Hid.mk hv
                have HML : Hid (SqMap _ wr.heap.size 0 (.map [])) := Hid.mk (SqMap.kept (World.ownsMap_made wr Tryd.prog 56 RVp) hb2)
                have HBN := Hid.mk (bl2 hb1 hb2)
                have HOWN := Hid.mk (HSP.out.map.kept (bl2 hb1 hb2))
                have HSZN : Hid (((wr.alloc (.map #[] 0)).alloc (.cells #[.map (some wr.heap.size)] 59)).heap.size = wr.heap.size + 2) := Hid.mk (by simp)
                clear hfin hb1 hb2 hv hmany
                go_upto_region 35 with fail
                generalize (wr.alloc (.map #[] 0)).alloc (.cells #[.map (some wr.heap.size)] 59) = w10 at *
                clear hlen hmm
                go_wp2_with (at_range; refine wpList_range_own _ rfl _ 54 rfl 56 57 sq_law Tryd.underlying54 RVp w8.heap.size S.length D rfl HOWN.out ?_; intro w0 hrg0 hg0 hs0)
                go_frame
                go_loopw [22] (fun s22 wz => ∃ (left : Lit → Bool) (cnt : Nat) (DL : DVp) (T : List Pl), Hid (wz.ranges Tryd.prog 56 RVp w8.heap.size w10.heap.size S.length D left cnt) ∧ Hid (SqMap wz wr.heap.size T.length DL) ∧ Hid (LfD DL T) ∧ Hid (∀ kl, left kl = true → ∃ q ∈ S, kl = kyS q) ∧ Hid (∀ p ∈ S, (p ∈ T ↔ left (kyS p) = false)) ∧ Hid (∀ p ∈ T, p ∈ S) ∧ Hid (wz.heap[wr.heap.size + 1]? = some (.cells #[.map (some wr.heap.size)] 59 (0, 0))) ∧ Hid (Below wr.heap.size wr wz)) (fun _ wz => wz.rangeLeft w8.heap.size w10.heap.size)
                case atStart => exact ⟨_, _, .map [], [], Hid.mk hrg0, Hid.mk (HML.out.kept (below_none hg0)), Hid.mk LfD.nil, Hid.mk (fun kl h => HNXD.out.keys kl h), Hid.mk (fun p hp => by rw [HNXD.out.has p (HOKS.out p hp), decide_eq_true hp]; simp), Hid.mk (fun p hp => by cases hp), Hid.mk (keep_none hg0 HVL.out), Hid.mk (bl2 HBN.out (below_none hg0))⟩
                case round =>
                  clear hrg0 hg0 hs0 HML HVL HBN HOWN
                  obtain ⟨left, cnt, DL, T, HRG, HML, HLD, HKS, HTL, HTS, HVL, HBz⟩ := hrel
                  rename World => wz
                  go_wp2_with (at_next; refine wpList_next_sq _ rfl _ rfl w8.heap.size w10.heap.size S.length D left cnt rfl HRG.out S HKS.out HOKS.out ?_ ?_)
                  · intro hl0
                    have HTT : Hid (∀ p ∈ S, p ∈ T) := Hid.mk (fun p hp => (HTL.out p hp).2 (hl0 _))
                    have HTN : Hid (T.length ≤ 1000) := Hid.mk (Nat.le_trans (len_subX T S HLD.out.nodup HTS.out) HSL.out)
                    clear hl0 HRG HKS HTL HSZN
                    have hRR : ∃ RR : Pl → Prop, bR = true → Ring nx S RR ∧ ∃ p, RR p := by
                      cases bR with
                      | false => exact ⟨fun _ => False, fun h => by cases h⟩
                      | true =>
                        obtain ⟨RR, h1, p, h2⟩ := round_yes HW.out HRD.out
                        exact ⟨RR, fun _ => ⟨fun q hq => ⟨(HPS.out q).1 (h1 q hq).1, (h1 q hq).2⟩, p, h2⟩⟩
                    obtain ⟨RR, hRR⟩ := hRR
                    have HRR := Hid.mk hRR
                    have HRI : Hid (bR = true → ∃ p, RR p ∧ p ∈ T) := Hid.mk (fun h => by
                      obtain ⟨h1, p, h2⟩ := hRR h
                      exact ⟨p, h2, HTT.out p (h1 p h2).1⟩)
                    have HLF : Hid (Lft nx S (fun p => p ∈ T)) := Hid.mk ⟨fun p hp => HTS.out p hp, fun p hp hn => absurd (HTT.out p hp) hn⟩
                    clear hRR HTT HTS
                    go_wp2_with fail
                    go_loopg [23] 2001 (fun gk2 s23 wz => ∃ (again : Bool) (T : List Pl) (DL : DVp), s23 = .bool again ∧ 2 * T.length + (if again = true then 1 else 0) ≤ gk2 ∧ Hid (SqMap wz wr.heap.size T.length DL) ∧ Hid (LfD DL T) ∧ Hid (Lft nx S (fun p => p ∈ T)) ∧ Hid (bR = true → ∃ p, RR p ∧ p ∈ T) ∧ Hid (again = false → ∀ p ∈ T, ∃ q ∈ nx p, q ∈ T) ∧ Hid (wz.heap[wr.heap.size + 1]? = some (.cells #[.map (some wr.heap.size)] 59 (0, 0))) ∧ Hid (Below wr.heap.size wr wz))
                    case atStart => exact ⟨true, T, DL, rfl, by have := HTN.out; simp; omega, HML, HLD, HLF, HRI, Hid.mk (fun h => by cases h), HVL, HBz⟩
                    case round =>
                      clear HTN HML HLD HLF HRI HVL HBz
                      obtain ⟨again, T, DL, rfl, hgk2, HML, HLD, HLF, HRI, HAG, HVL, HBz⟩ := hrel
                      rename World => wz
                      have v0 := cell_of_row _ _ 0 _ _ _ HVL.out
                      cases again with
                      | false =>
                        have hlen2 := lf_len HML.out HLD.out 3
                        cases hT : T with
                        | cons t T2 =>
                          have hbR : bR = true := by
                            cases hb : bR with
                            | true => rfl
                            | false =>
                              exfalso
                              have h1 := HRD.out
                              rw [hb] at h1
                              exact round_no_left HW.out h1 (Lf := fun p => p ∈ T) (fun p hp => (HPS.out p).2 (HLF.out.sub p hp)) (fun p hp => HAG.out rfl p hp) t (by rw [hT]; exact List.mem_cons_self)
                          obtain ⟨rfl, rfl⟩ := HA1.out hbR
                          rw [hT] at hlen2
                          have hpos : (0 : Int) < (((t :: T2).length : Nat) : Int) := by rw [List.length_cons]; omega
                          have HBE := Hid.mk (bl2 HB8.out (bl2 HB.out HBz.out))
                          clear hgk2 hT
                          go_wp2_with fail
                          refine bodyPost_ret (results_tmp rfl _ _ _) rfl ?_
                          exact ⟨by first | rfl | simp, HBE.out⟩
                        | nil =>
                          have hbR : bR = false := by
                            cases hb : bR with
                            | false => rfl
                            | true =>
                              obtain ⟨p, -, hp⟩ := HRI.out hb
                              rw [hT] at hp
                              cases hp
                          rw [hT] at hlen2
                          simp only [List.length_nil] at hlen2
                          obtain ⟨hE0, hn0, P', hP1, hP2, hP3⟩ := HA3.out hbR (by rw [← HPL.out]; exact HSL.out)
                          subst hE0
                          have HP1 := Hid.mk hP1
                          have HP2 := Hid.mk hP2
                          have HP3 := Hid.mk hP3
                          have HN1 := Hid.mk hn0
                          clear hP1 hP2 hP3 hn0 hgk2 hT hbR HA1 HA2 HA3 HAG HRI HLF HML HLD HVL HRR HRD
                          have HBF9 := Hid.mk (bl2 HB.out HBz.out)
                          have hWF := HW.out
                          obtain ⟨i8, hi8, h80, h81, h82⟩ := info_parts info_ln
                          obtain ⟨i1, hi1, h10, h11, h12⟩ := info_parts info_intF
                          clear hWF
                          go_wp2_with fail
                          go_loopw [25, 201] (fun s25 s201 wy => ∃ (b : Nat) (Q : List LnR) (X : List Pl) (vX : Value), b ≤ 4 ∧ vX = s25 ∧ s201 = .int .i64 b ∧ Hid (wy.ownsRow wz.heap.size 49 8 vX Q.length (lnsC Q)) ∧ Hid (∀ q ∈ Q, q.a = fa0 ∧ q.len = len ∧ q.cap = cap) ∧ Hid (Q.map LnR.k = X.map (plK lo fa re sz len)) ∧ Hid (X.Pairwise ltP) ∧ Hid (∀ p, p ∈ X ↔ p ∈ S ∧ p ≠ (bus, id) ∧ p.1 < (b : Int)) ∧ Hid (Below wz.heap.size wz wy)) (fun _ i _ => 4 - (intOf i).toNat)
                          case atStart => exact ⟨0, [], [], _, by omega, rfl, rfl, Hid.mk (World.ownsRow_nil _ _ _ _), Hid.mk (fun q hq => by cases hq), Hid.mk rfl, Hid.mk List.Pairwise.nil, Hid.mk (fun p => ⟨fun h => (by cases h), fun h => (by have h1 := (HOKS.out p h.1).1.1; have h2 := h.2.2; omega)⟩), Hid.mk (Below.refl _ _)⟩
                          case round =>
                            obtain ⟨b, Q, X, vX, hb4, rfl, rfl, HQR, HQA, HQK, HXP, HXM, HBy⟩ := hrel
                            rename World => wy
                            have HQL : Hid (Q.length ≤ 1000) := Hid.mk (by
                              have h1 := congrArg List.length HQK.out
                              simp only [List.length_map] at h1
                              have h2 := len_subX X S (sorted_nodup HXP.out) (fun p hp => ((HXM.out p).1 hp).1)
                              have h3 := HSL.out
                              omega)
                            by_cases hlt : b < 4
                            · have hlt' : (b : Int) < 4 := by omega
                              have hb3 : (b : Int) ≤ 3 := by omega
                              have HMW := Hid.mk (HSQ.out.map.kept (bl2 HBz.out HBy.out))
                              have HBLY : Hid (w8.heap.size < wy.heap.size) := Hid.mk HMW.out.lt
                              go_wp2_with (at_range; refine wpList_range_own _ rfl _ 54 rfl 56 57 sq_law Tryd.underlying54 RVp w8.heap.size S.length D rfl HMW.out ?_; intro w0 hrg0 hg0 hs0)
                              go_frame
                              go_loopw [27] (fun s27 wx => ∃ (left : Lit → Bool) (cnt : Nat) (I : List Int) (vI : Value), vI = s27 ∧ Hid (wx.ranges Tryd.prog 56 RVp w8.heap.size wy.heap.size S.length D left cnt) ∧ Hid (wx.ownsRow (wy.heap.size + 1) 3 1 vI I.length (numC I)) ∧ Hid (∀ kl, left kl = true → ∃ q ∈ S, kl = kyS q) ∧ Hid (∀ i, i ∈ I ↔ ((b : Int), i) ∈ S ∧ ((b : Int), i) ≠ (bus, id) ∧ left (kyS ((b : Int), i)) = false) ∧ Hid I.Nodup ∧ Hid (wy.heap.size + 1 ≤ wx.heap.size) ∧ Hid (Below wy.heap.size wy wx)) (fun _ wx => wx.rangeLeft w8.heap.size wy.heap.size)
                              case atStart => exact ⟨_, _, [], _, rfl, Hid.mk hrg0, Hid.mk (World.ownsRow_nil _ _ _ _), Hid.mk (fun kl h => HNXD.out.keys kl h), Hid.mk (fun i => ⟨fun h => (by cases h), fun h => (by
                                have h1 := h.2.2
                                rw [HNXD.out.has _ (HOKS.out _ h.1), decide_eq_true h.1] at h1
                                cases h1)⟩), Hid.mk List.nodup_nil, Hid.mk (by rw [hs0]; exact Nat.le_refl _), Hid.mk (below_none hg0)⟩
                              case round =>
                                clear hrg0 hg0 hs0 HMW
                                obtain ⟨left, cnt, I, vI, rfl, HRG, HIR, HKS, HIM, HIN2, HSX, HBx⟩ := hrel
                                rename World => wx
                                have HIL : Hid (I.length ≤ 1000) := Hid.mk (Nat.le_trans (ids_len HIN2.out (fun i hi => ((HIM.out i).1 hi).1)) HSL.out)
                                go_wp2_with (at_next; refine wpList_next_sq _ rfl _ rfl w8.heap.size wy.heap.size S.length D left cnt rfl HRG.out S HKS.out HOKS.out ?_ ?_)
                                · intro hl0
                                  have HIM0 : Hid (∀ i, i ∈ I ↔ ((b : Int), i) ∈ S ∧ ((b : Int), i) ≠ (bus, id)) := Hid.mk (fun i => by rw [HIM.out i]; exact ⟨fun h => ⟨h.1, h.2.1⟩, fun h => ⟨h.1, h.2, hl0 _⟩⟩)
                                  have HSO := Hid.mk (sortI_any (wy.heap.size + 1) vI I wx HIR.out HSX.out (by have := HIL.out; omega))
                                  clear hl0 HRG HIR HKS HIM
                                  go_wp2_with fail
                                  refine HSO.out.mono ?_
                                  rintro e w2 ⟨rfl, ⟨I', hp9, hs9, hrow9⟩, hb9⟩
                                  have HB2 : Hid (Below wy.heap.size wy w2) := Hid.mk (HBx.out.trans ⟨hb9.os, hb9.tape, hb9.output, hb9.size, fun q hq => hb9.block q (by omega)⟩)
                                  have HIL' : Hid (I'.length ≤ 1000) := Hid.mk (by rw [hp9.length_eq]; exact HIL.out)
                                  have hbs := bus_step HXP.out HXM.out hs9 (hp9.nodup_iff.2 HIN2.out) (fun i => by rw [hp9.mem_iff]; exact HIM0.out i)
                                  have HBS := Hid.mk hbs
                                  obtain ⟨a9, c9, hv9⟩ := own_slice0 hrow9
                                  subst hv9
                                  have HQ2 := Hid.mk (ownsRow_below HQR.out HB2.out)
                                  have HR9 := Hid.mk hrow9
                                  have HBK := Hid.mk (bl2 HBy.out HB2.out)
                                  have HNE9 : Hid (∀ q, vX.ownBlock = some q → ∀ q', (Value.slice a9 I'.length c9).ownBlock = some q' → q ≠ q') := Hid.mk (fun q hq q' hq' => by have h1 := (HQR.out.lt q hq).2; have h2 := (hrow9.lt q' hq').1; omega)
                                  obtain ⟨m9, hm9⟩ : ∃ m9, m9 = I'.length := ⟨_, rfl⟩
                                  rw [← hm9] at HR9 HNE9 HIL' ⊢
                                  have HM9 := Hid.mk hm9
                                  have hm9i : (m9 : Int) ≤ 1000 := by have := HIL'.out; omega
                                  clear hp9 hs9 hrow9 hb9 hbs HSO HIM0 hm9 HBx HSX
                                  go_wp2_with fail
                                  go_loopw [25, 231] (fun s25 s231 wk => ∃ (k : Nat) (Q' : List LnR) (v : Value), k ≤ m9 ∧ v = s25 ∧ s231 = .int .i64 k ∧ Hid (wk.ownsRow wz.heap.size 49 8 v Q'.length (lnsC Q')) ∧ Hid (∀ q ∈ Q', q.a = fa0 ∧ q.len = len ∧ q.cap = cap) ∧ Hid (Q'.map LnR.k = (X ++ (I'.take k).map (fun i => ((b : Int), i))).map (plK lo fa re sz len)) ∧ Hid (wk.ownsRow (wy.heap.size + 1) 3 1 (.slice a9 m9 c9) m9 (numC I')) ∧ Hid (∀ q, v.ownBlock = some q → ∀ q', (Value.slice a9 m9 c9).ownBlock = some q' → q ≠ q') ∧ Hid (Below wz.heap.size wz wk)) (fun _ i _ => m9 - (intOf i).toNat)
                                  case atStart => exact ⟨0, Q, vX, Nat.zero_le _, rfl, rfl, HQ2, HQA, Hid.mk (by rw [List.take_zero, List.map_nil, List.append_nil]; exact HQK.out), HR9, HNE9, HBK⟩
                                  case round =>
                                    clear HQ2 HR9 HNE9 HBK
                                    obtain ⟨k, Q', v, hk, rfl, rfl, HQ2, HQA', HQK', HR9, HNE9, HBK⟩ := hrel
                                    rename World => wk
                                    by_cases hlk : k < m9
                                    · have hlk' : (k : Int) < (m9 : Int) := by omega
                                      obtain ⟨g9, c9', hv9, -, -⟩ := own_slice HR9.out (by omega)
                                      have e9 : a9 = some ⟨g9, 0, none⟩ := by injection hv9
                                      subst e9
                                      clear hv9
                                      have hkI : k < I'.length := by rw [← HM9.out]; exact hlk
                                      have c0 := HR9.out.cellAt k (show k < m9 * 1 by omega)
                                      obtain ⟨i9, hi9⟩ : ∃ i9, i9 = I'.getD k 0 := ⟨_, rfl⟩
                                      have hci : (numC I')[k]? = some (.int .i64 i9) := by rw [hi9]; simp [numC, List.getD, hkI]
                                      rw [hci] at c0
                                      have HTK : Hid ((I'.take (k + 1)).map (fun i => ((b : Int), i)) = (I'.take k).map (fun i => ((b : Int), i)) ++ [((b : Int), i9)]) := Hid.mk (by rw [List.take_succ_eq_append_getElem hkI, List.map_append, hi9]; simp [List.getD, hkI])
                                      have HQL' : Hid (Q'.length ≤ 2000) := Hid.mk (by
                                        have h1 := congrArg List.length HQK'.out
                                        simp only [List.length_map, List.length_append, List.length_take] at h1
                                        have h2 := len_subX X S (sorted_nodup HXP.out) (fun p hp => ((HXM.out p).1 hp).1)
                                        have h3 := HSL.out
                                        have h4 := HIL'.out
                                        omega)
                                      obtain ⟨q0, q1, q2, q3, q4, q5⟩ := (HF8.out.kept (bl2 HBF9.out HBK.out)).fr
                                      have hx1 := awB wk (.cells #[.int .i64 i9, .bool lo, .bool fa, .bool re, .int .i64 sz, .slice fa0 len cap] 28)
                                      have hh := heap_alloc_new wk (.cells #[.int .i64 i9, .bool lo, .bool fa, .bool re, .int .i64 sz, .slice fa0 len cap] 28)
                                      have x0 := cell_of_row _ _ 0 _ _ _ hh
                                      have x1 := cell_of_row _ _ 1 _ _ _ hh
                                      have x2 := cell_of_row _ _ 2 _ _ _ hh
                                      have x3 := cell_of_row _ _ 3 _ _ _ hh
                                      have x4 := cell_of_row _ _ 4 _ _ _ hh
                                      have x5 := cell_of_row _ _ 5 _ _ _ hh
                                      have hx2 := awB (wk.alloc (.cells #[.int .i64 i9, .bool lo, .bool fa, .bool re, .int .i64 sz, .slice fa0 len cap] 28)) (.cells #[.int .i64 0, .int .i64 (b : Int), .int .i64 i9, .bool lo, .bool fa, .bool re, .int .i64 sz, .slice fa0 len cap] 49)
                                      have hce := new_cellsR (wk.alloc (.cells #[.int .i64 i9, .bool lo, .bool fa, .bool re, .int .i64 sz, .slice fa0 len cap] 28)) [.int .i64 0, .int .i64 (b : Int), .int .i64 i9, .bool lo, .bool fa, .bool re, .int .i64 sz, .slice fa0 len cap] 49
                                      rw [size_alloc] at hce
                                      have HCE := Hid.mk hce
                                      have HQ3 := Hid.mk (ownsRow_below HQ2.out (bl2 hx1 hx2))
                                      have HR3 := Hid.mk (ownsRow_below HR9.out (bl2 hx1 hx2))
                                      have HB3 := Hid.mk (bl2 HBK.out (bl2 hx1 hx2))
                                      have HWS : Hid (((wk.alloc (.cells #[.int .i64 i9, .bool lo, .bool fa, .bool re, .int .i64 sz, .slice fa0 len cap] 28)).alloc (.cells #[.int .i64 0, .int .i64 (b : Int), .int .i64 i9, .bool lo, .bool fa, .bool re, .int .i64 sz, .slice fa0 len cap] 49)).heap.size = wk.heap.size + 2) := Hid.mk (by rw [size_alloc, size_alloc])
                                      clear hx1 hh hx2 hce hci hi9
                                      go_wp2_with (
                                         at_builtin
                                         refine wpList_append_two rfl (.tmp 238) (.tmp 242) 29 rfl wz.heap.size 49 i8 (.agg #[.int .i64 0, .int .i64 0, .int .i64 0, .bool false, .bool false, .bool false, .int .i64 0, .slice none 0 0]) 8 64 Tryd.underlying29 hi8 h80 h81 h82 rfl (by decide) _ _ _ rfl HQ3.out ⟨wk.heap.size + 1, 0, none⟩ 1 1 [.int .i64 0, .int .i64 (b : Int), .int .i64 i9, .bool lo, .bool fa, .bool re, .int .i64 sz, .slice fa0 len cap] rfl rfl HCE.out (by intro u hu; simp at hu; rcases hu with rfl | rfl | rfl | rfl | rfl | rfl | rfl | rfl <;> rfl) (by decide) (by have := HQL'.out; unfold maxLen; omega) (by have := HQL'.out; omega) HB3.out.size ?_
                                         intro v7 w7 hown7 hgrow7 hblk7)
                                      have HO7 : Hid (w7.ownsRow wz.heap.size 49 8 v7 (Q' ++ [(⟨0, (b : Int), i9, lo, fa, re, sz, fa0, len, cap⟩ : LnR)]).length (lnsC (Q' ++ [(⟨0, (b : Int), i9, lo, fa, re, sz, fa0, len, cap⟩ : LnR)]))) := Hid.mk (by rw [lnsC_add, List.length_append]; exact hown7)
                                      have HR7 := Hid.mk (owns_beside HR3.out hgrow7 (fun q hq e => HNE9.out q e.symm q hq rfl))
                                      have HB7 := Hid.mk (Below.grown HB3.out hgrow7 HB3.out.size (fun q hq => (HQ2.out.lt q hq).1))
                                      have HNE7 : Hid (∀ q, v7.ownBlock = some q → ∀ q', (Value.slice (some ⟨g9, 0, none⟩) m9 c9).ownBlock = some q' → q ≠ q') := Hid.mk (fun q hq q' hq' => by
                                        rcases hblk7 with h1 | h1
                                        · rw [h1] at hq; exact HNE9.out q hq q' hq'
                                        · rw [h1] at hq
                                          have h2 := Option.some.inj hq
                                          have h3 := (HR9.out.lt q' hq').2
                                          have h4 := HWS.out
                                          omega)
                                      have HQ8 : Hid (∀ q ∈ Q' ++ [(⟨0, (b : Int), i9, lo, fa, re, sz, fa0, len, cap⟩ : LnR)], q.a = fa0 ∧ q.len = len ∧ q.cap = cap) := Hid.mk (fun q hq => by
                                        rcases List.mem_append.1 hq with hq | hq
                                        · exact HQA'.out q hq
                                        · rw [List.mem_singleton] at hq; subst hq; exact ⟨rfl, rfl, rfl⟩)
                                      clear hown7 hgrow7 hblk7
                                      go_roundw
                                      case rel => exact ⟨k + 1, _, v7, by omega, rfl, by go_num, HO7, HQ8, Hid.mk (by rw [HTK.out, ← List.append_assoc, List.map_append, List.map_append, HQK'.out, List.map_append]; rfl), HR7, HNE7, HB7⟩
                                      case measure => simp [intOf]; omega
                                    · obtain rfl : k = m9 := by omega
                                      have HQK9 := HQK'.out
                                      rw [List.take_of_length_le (by rw [← HM9.out]; exact Nat.le_refl _)] at HQK9
                                      have HQK9 := Hid.mk HQK9
                                      go_wp2_with fail
                                      go_roundw
                                      case rel => exact ⟨b + 1, Q', _, v, by omega, rfl, by go_num, HQ2, HQA', HQK9, Hid.mk HBS.out.1, Hid.mk HBS.out.2, HBK⟩
                                      case measure => simp [intOf]; omega
                                · intro xb xi vv w1 cnt1 hq hlk hrg1 hlt1 hg1 hs1 hen
                                  have HXO := Hid.mk (HOKS.out _ hq)
                                  have HQS := Hid.mk hq
                                  have HLK := Hid.mk hlk
                                  have hx := awB w1 (.cells #[.int .i64 xb, .int .i64 xi] 56)
                                  have HIR1 := Hid.mk (ownsRow_below (owns_beside HIR.out hg1 (fun q hq e => by have h1 := (HIR.out.lt q hq).1; have h2 := Option.some.inj e; omega)) hx)
                                  have HB1 := Hid.mk (bl2 (Below.grown HBx.out hg1 HBx.out.size (fun q hq => by cases hq; exact Nat.le_refl _)) hx)
                                  have HRG1 := Hid.mk (hrg1.alloc (.cells #[.int .i64 xb, .int .i64 xi] 56))
                                  have HCL := Hid.mk hlt1
                                  have HSX1 : Hid (wy.heap.size + 1 ≤ (w1.alloc (.cells #[.int .i64 xb, .int .i64 xi] 56)).heap.size) := Hid.mk (by have := HSX.out; rw [size_alloc]; omega)
                                  have hh := heap_alloc_new w1 (.cells #[.int .i64 xb, .int .i64 xi] 56)
                                  have s0 := cell_of_row _ _ 0 _ _ _ hh
                                  have s1 := cell_of_row _ _ 1 _ _ _ hh
                                  have f0 := (HF8.out.kept (bl2 HBF9.out (bl2 HBy.out HB1.out))).fr.c0
                                  clear hq hlk hrg1 hlt1 hg1 hs1 hx hh
                                  by_cases he : xb = (b : Int)
                                  · subst he
                                    by_cases hst : ((b : Int), xi) = (bus, id)
                                    · have HST := Hid.mk hst
                                      have hx1 : bus = (b : Int) := (Prod.ext_iff.1 hst).1.symm
                                      have hx2 : id = xi := (Prod.ext_iff.1 hst).2.symm
                                      subst hx1
                                      subst hx2
                                      clear hst
                                      go_wp2_with fail
                                      go_roundw
                                      case rel => exact ⟨_, cnt1, I, vI, rfl, HRG1, HIR1, Hid.mk (fun kl h => HKS.out kl (by simp only [Bool.and_eq_true] at h; exact h.1)), Hid.mk (fun i => (by
                                        rw [HIM.out i]
                                        refine and_congr_right fun h1 => and_congr_right fun h2 => ?_
                                        rw [left_step (HOKS.out _ h1) HXO.out]
                                        exact ⟨fun h => .inl h, fun h => h.resolve_right (fun e => h2 (e.trans HST.out))⟩)), HIN2, HSX1, HB1⟩
                                      case measure => rw [HRG1.out.left_eq, HRG.out.left_eq]; exact HCL.out
                                    · have HST := Hid.mk hst
                                      have hne : ¬ ((b : Int) = bus ∧ xi = id) := fun e => hst (Prod.ext e.1 e.2)
                                      have hbn := awB (w1.alloc (.cells #[.int .i64 (b : Int), .int .i64 xi] 56)) (.cells #[.int .i64 xi] 3)
                                      have hnw := one_int (w1.alloc (.cells #[.int .i64 (b : Int), .int .i64 xi] 56)) (.int .i64 xi) 3
                                      rw [size_alloc] at hnw
                                      have HNW := Hid.mk hnw
                                      clear hnw
                                      have HIR2 := Hid.mk (ownsRow_below HIR1.out hbn)
                                      have HB2 := Hid.mk (bl2 HB1.out hbn)
                                      have HRG2 := Hid.mk (HRG1.out.alloc (.cells #[.int .i64 xi] 3))
                                      clear hbn hst
                                      by_cases hb0 : (b : Int) = bus
                                      · subst hb0
                                        have hxi : (xi == id) = false := by rw [beq_eq_false_iff_ne]; exact fun e => hne ⟨rfl, e⟩
                                        clear hne
                                        go_wp2_with (
                                           at_builtin
                                           refine wpList_append_own _ rfl (.tmp 222) (.tmp 225) 23 rfl (wy.heap.size + 1) 3 i1 (.int .i64 0) 1 8 Tryd.underlying23 hi1 h10 h11 h12 rfl (by decide) _ _ _ rfl HIR2.out ⟨w1.heap.size + 1, 0, none⟩ 1 1 [Value.int .i64 xi] rfl rfl HNW.out (by intro u hu; simp at hu; subst hu; rfl) (by have := HIL.out; unfold maxLen; omega) (by have := HIL.out; omega) (by have := HSX1.out; simp only [size_alloc] at this ⊢; omega) ?_
                                           intro v6 w6 hown6 hgrow6 _)
                                        have HGQ := Hid.mk (fun q (hq : vI.ownBlock = some q) => (HIR2.out.lt q hq).1)
                                        have HRG6 := Hid.mk (HRG2.out.kept hgrow6 (fun e => by have := HGQ.out _ e.symm; have := HBLY.out; omega) (fun e => by have := HGQ.out _ e.symm; omega))
                                        have HB6 := Hid.mk (Below.grown HB2.out hgrow6 HB2.out.size (fun q hq => by have := HGQ.out _ hq; omega))
                                        have HSX6 : Hid (wy.heap.size + 1 ≤ w6.heap.size) := Hid.mk (by have h1 := HSX1.out; have h2 := hgrow6.size; rw [size_alloc] at h2; omega)
                                        have HOWN6 : Hid (w6.ownsRow (wy.heap.size + 1) 3 1 v6 (I ++ [xi]).length (numC (I ++ [xi]))) := Hid.mk (by rw [numC_append, List.length_append]; exact hown6)
                                        clear hown6 hgrow6
                                        go_roundw
                                        case rel => exact ⟨_, cnt1, I ++ [xi], v6, rfl, HRG6, HOWN6, Hid.mk (fun kl h => HKS.out kl (by simp only [Bool.and_eq_true] at h; exact h.1)), Hid.mk (fun i => (by
                                          rw [List.mem_append, List.mem_singleton, HIM.out i]
                                          constructor
                                          · rintro (h | h)
                                            · exact ⟨h.1, h.2.1, (left_step (HOKS.out _ h.1) HXO.out).2 (.inl h.2.2)⟩
                                            · rw [h]
                                              exact ⟨HQS.out, HST.out, (left_step HXO.out HXO.out).2 (.inr rfl)⟩
                                          · rintro ⟨h1, h2, h3⟩
                                            rcases (left_step (HOKS.out _ h1) HXO.out).1 h3 with h4 | h4
                                            · exact .inl ⟨h1, h2, h4⟩
                                            · exact .inr (Prod.ext_iff.1 h4).2)), Hid.mk (by
                                          rw [List.nodup_append]
                                          exact ⟨HIN2.out, by simp, fun x hx y hy e => by
                                            rw [List.mem_singleton] at hy
                                            subst hy
                                            subst e
                                            have h1 := ((HIM.out x).1 hx).2.2
                                            have h2 := HLK.out
                                            rw [h1] at h2
                                            cases h2⟩), HSX6, HB6⟩
                                        case measure => rw [HRG6.out.left_eq, HRG.out.left_eq]; exact HCL.out
                                      · have hxi : ((b : Int) == bus) = false := by rw [beq_eq_false_iff_ne]; exact hb0
                                        clear hne
                                        go_wp2_with (
                                           at_builtin
                                           refine wpList_append_own _ rfl (.tmp 222) (.tmp 225) 23 rfl (wy.heap.size + 1) 3 i1 (.int .i64 0) 1 8 Tryd.underlying23 hi1 h10 h11 h12 rfl (by decide) _ _ _ rfl HIR2.out ⟨w1.heap.size + 1, 0, none⟩ 1 1 [Value.int .i64 xi] rfl rfl HNW.out (by intro u hu; simp at hu; subst hu; rfl) (by have := HIL.out; unfold maxLen; omega) (by have := HIL.out; omega) (by have := HSX1.out; simp only [size_alloc] at this ⊢; omega) ?_
                                           intro v6 w6 hown6 hgrow6 _)
                                        have HGQ := Hid.mk (fun q (hq : vI.ownBlock = some q) => (HIR2.out.lt q hq).1)
                                        have HRG6 := Hid.mk (HRG2.out.kept hgrow6 (fun e => by have := HGQ.out _ e.symm; have := HBLY.out; omega) (fun e => by have := HGQ.out _ e.symm; omega))
                                        have HB6 := Hid.mk (Below.grown HB2.out hgrow6 HB2.out.size (fun q hq => by have := HGQ.out _ hq; omega))
                                        have HSX6 : Hid (wy.heap.size + 1 ≤ w6.heap.size) := Hid.mk (by have h1 := HSX1.out; have h2 := hgrow6.size; rw [size_alloc] at h2; omega)
                                        have HOWN6 : Hid (w6.ownsRow (wy.heap.size + 1) 3 1 v6 (I ++ [xi]).length (numC (I ++ [xi]))) := Hid.mk (by rw [numC_append, List.length_append]; exact hown6)
                                        clear hown6 hgrow6
                                        go_roundw
                                        case rel => exact ⟨_, cnt1, I ++ [xi], v6, rfl, HRG6, HOWN6, Hid.mk (fun kl h => HKS.out kl (by simp only [Bool.and_eq_true] at h; exact h.1)), Hid.mk (fun i => (by
                                          rw [List.mem_append, List.mem_singleton, HIM.out i]
                                          constructor
                                          · rintro (h | h)
                                            · exact ⟨h.1, h.2.1, (left_step (HOKS.out _ h.1) HXO.out).2 (.inl h.2.2)⟩
                                            · rw [h]
                                              exact ⟨HQS.out, HST.out, (left_step HXO.out HXO.out).2 (.inr rfl)⟩
                                          · rintro ⟨h1, h2, h3⟩
                                            rcases (left_step (HOKS.out _ h1) HXO.out).1 h3 with h4 | h4
                                            · exact .inl ⟨h1, h2, h4⟩
                                            · exact .inr (Prod.ext_iff.1 h4).2)), Hid.mk (by
                                          rw [List.nodup_append]
                                          exact ⟨HIN2.out, by simp, fun x hx y hy e => by
                                            rw [List.mem_singleton] at hy
                                            subst hy
                                            subst e
                                            have h1 := ((HIM.out x).1 hx).2.2
                                            have h2 := HLK.out
                                            rw [h1] at h2
                                            cases h2⟩), HSX6, HB6⟩
                                        case measure => rw [HRG6.out.left_eq, HRG.out.left_eq]; exact HCL.out
                                  · have hbe : (xb == (b : Int)) = false := by rw [beq_eq_false_iff_ne]; exact he
                                    have HNE := Hid.mk he
                                    go_wp2_with fail
                                    go_roundw
                                    case rel => exact ⟨_, cnt1, I, vI, rfl, HRG1, HIR1, Hid.mk (fun kl h => HKS.out kl (by simp only [Bool.and_eq_true] at h; exact h.1)), Hid.mk (fun i => (by
                                      rw [HIM.out i]
                                      refine and_congr_right fun h1 => and_congr_right fun h2 => ?_
                                      rw [left_step (HOKS.out _ h1) HXO.out]
                                      exact ⟨fun h => .inl h, fun h => h.resolve_right (fun e => HNE.out (Prod.ext_iff.1 e).1.symm)⟩)), HIN2, HSX1, HB1⟩
                                    case measure => rw [HRG1.out.left_eq, HRG.out.left_eq]; exact HCL.out
                            · obtain rfl : b = 4 := by omega
                              obtain ⟨a9, c9, hv9⟩ := own_slice0 HQR.out
                              subst hv9
                              have HKE := Hid.mk (lines_same HP2.out HP3.out HW.out.nodup (web_head HW.out) HPS.out HOKS.out HXP.out HXM.out HQK.out)
                              have hlen9 := congrArg List.length HKE.out
                              simp only [List.length_map] at hlen9
                              have hpl := HP1.out.len
                              have HBQ := Hid.mk (bl2 HBF9.out HBy.out)
                              have hQ9 := lns_of (dt := dt) HQR.out rfl (fun q hq => by obtain ⟨e1, e2, e3⟩ := HQA.out q hq; rw [e1, e2, e3]; exact isBytes_below HD8.out HBQ.out)
                              have hQL : Q.length = n1 := by omega
                              rw [hQL] at hQ9
                              have HSL9 := Hid.mk (sameLines_true a1 a9 n1 c1 c9 P' Q dt wy (HP1.out.kept HBQ.out) hQ9 HKE.out)
                              rw [hQL]
                              clear hQ9 hQL hlen9 hpl HQR
                              go_wp2_with fail
                              refine HSL9.out.mono ?_
                              rintro e w9 ⟨rfl, hb9⟩
                              have HBE := Hid.mk (bl2 HB8.out (bl2 HBQ.out hb9))
                              clear hb9
                              go_wp2_with fail
                              refine bodyPost_ret (results_tmp rfl _ _ _) rfl ?_
                              exact ⟨by first | rfl | simp, HBE.out⟩
                      | true =>
                        simp only [if_true] at hgk2
                        have HGK2 := Hid.mk hgk2
                        have HBWZ : Hid (wr.heap.size + 1 < wz.heap.size) := Hid.mk (lt_of_block HVL.out)
                        clear hgk2 HAG
                        go_wp2_with (at_range; refine wpList_range_own _ rfl _ 59 rfl 56 4 sq_law Tryd.underlying59 RVp wr.heap.size T.length DL rfl HML.out ?_; intro w0 hrg0 hg0 hs0)
                        go_frame
                        go_loopw [23] (fun s23 wy => ∃ (again' : Bool) (left : Lit → Bool) (cnt : Nat) (DL' : DVp) (T' : List Pl), s23 = .bool again' ∧ Hid (wy.ranges Tryd.prog 56 RVp wr.heap.size wz.heap.size T.length DL' left cnt) ∧ Hid (LfD DL' T') ∧ Hid (∀ kl, left kl = true → ∃ q ∈ T', kl = kyS q) ∧ Hid (Lft nx S (fun p => p ∈ T')) ∧ Hid (bR = true → ∃ p, RR p ∧ p ∈ T') ∧ Hid (again' = false → T'.length = T.length ∧ ∀ p ∈ T', left (kyS p) = false → ∃ q ∈ nx p, q ∈ T') ∧ Hid (again' = true → T'.length < T.length) ∧ Hid (wy.heap[wr.heap.size + 1]? = some (.cells #[.map (some wr.heap.size)] 59 (0, 0))) ∧ Hid (Below wr.heap.size wr wy)) (fun _ wy => wy.rangeLeft wr.heap.size wz.heap.size)
                        case atStart => exact ⟨false, _, _, DL, T, rfl, Hid.mk hrg0, HLD, Hid.mk (fun kl h => HLD.out.keys kl h), HLF, HRI, Hid.mk (fun _ => ⟨rfl, fun p hp h => by rw [HLD.out.has p (HLD.out.ok p hp), decide_eq_true hp] at h; cases h⟩), Hid.mk (fun h => by cases h), Hid.mk (keep_none hg0 HVL.out), Hid.mk (bl2 HBz.out (below_none hg0))⟩
                        case round =>
                          clear hrg0 hg0 hs0 HML HLD HLF HRI HVL HBz v0
                          obtain ⟨again', left, cnt, DL', T', rfl, HRG, HLD, HKS, HLF, HRI, HA0, HA1', HVL, HBy⟩ := hrel
                          rename World => wy
                          go_wp2_with (at_next; refine wpList_next_sq _ rfl _ rfl wr.heap.size wz.heap.size T.length DL' left cnt rfl HRG.out T' HKS.out HLD.out.ok ?_ ?_)
                          · intro hl0
                            have HL0 := Hid.mk hl0
                            clear hl0
                            go_wp2_with fail
                            go_roundg (gk - 1)
                            case measure => have := HGK2.out; omega
                            case rel =>
                              refine ⟨again', T', DL', rfl, ?_, Hid.mk (SqMap.tightL HRG.out.owns HLD.out), HLD, HLF, HRI, Hid.mk (fun h p hp => (HA0.out h).2 p hp (HL0.out _)), HVL, HBy⟩
                              have h1 := HGK2.out
                              cases again' with
                              | true => have h2 := HA1'.out rfl; simp only [if_true]; omega
                              | false => have h2 := (HA0.out rfl).1; simp only [Bool.false_eq_true, if_false]; omega
                          · intro xb xi vv w1 cnt1 hq hlk hrg1 hlt1 hg1 hs1 hen
                            have HQ := Hid.mk hq
                            have HXO := Hid.mk (HLD.out.ok _ hq)
                            have HXS : Hid ((xb, xi) ∈ S) := Hid.mk (HLF.out.sub _ hq)
                            have hx := awB w1 (.cells #[.int .i64 xb, .int .i64 xi] 56)
                            have hV1 := (hx.block _ (lt_of_block (keep_other hg1 HVL.out (by have := HBWZ.out; omega)))).trans (keep_other hg1 HVL.out (by have := HBWZ.out; omega))
                            have HVL1 := Hid.mk hV1
                            have HB1 := Hid.mk (bl2 (Below.grown HBy.out hg1 HBy.out.size (fun q hq => by cases hq; have := HBWZ.out; omega)) hx)
                            have HRG1 := Hid.mk (hrg1.alloc (.cells #[.int .i64 xb, .int .i64 xi] 56))
                            have HCL := Hid.mk hlt1
                            have HNX1 := Hid.mk (HSQ.out.map.kept HB1.out)
                            have HCF := Hid.mk (someLeft_any (w8.heap.size + 1) g (G (xb, xi)) (wr.heap.size + 1) wr.heap.size T.length (V (xb, xi)) (F (xb, xi)) DL' T' _ ((HSQ.out.rows.row _ HXS.out).below HB1.out) (fun q hq => HOKS.out q (by rw [HFN.out _ HXS.out] at hq; exact HCLO.out _ HXS.out q hq)) (cell_of_row _ _ 0 _ _ _ hV1) HRG1.out.owns HLD.out)
                            rw [HFN.out _ HXS.out] at HCF
                            have hh := heap_alloc_new w1 (.cells #[.int .i64 xb, .int .i64 xi] 56)
                            have HS1 := Hid.mk hh
                            have s0 := cell_of_row _ _ 0 _ _ _ hh
                            have s1 := cell_of_row _ _ 1 _ _ _ hh
                            have HKY := Hid.mk (kyQ_some HXO.out)
                            unfold plV at HKY
                            simp only at HKY
                            clear hq hrg1 hlt1 hg1 hs1 hx hV1 hh HBy
                            go_wp2_with (at_lookup; refine wpList_lookup_nx _ rfl _ _ rfl w8.heap.size S.length D S V rfl HNX1.out HNXD.out xb xi HXO.out HXS.out rfl ?_)
                            refine HCF.out.mono ?_
                            rintro e w2 ⟨rfl, hb2⟩
                            have HB2 := Hid.mk (bl2 HB1.out hb2)
                            have HRG2 := Hid.mk (HRG1.out.kept (row := none) ⟨hb2.os, hb2.tape, hb2.output, hb2.size, fun k hk _ => hb2.block k hk⟩ (by simp) (by simp))
                            have hV2 := (hb2.block _ (lt_of_block HVL1.out)).trans HVL1.out
                            have HVL2 := Hid.mk hV2
                            have v0 := cell_of_row _ _ 0 _ _ _ hV2
                            have hS2 := (hb2.block _ (lt_of_block HS1.out)).trans HS1.out
                            have s0 := cell_of_row _ _ 0 _ _ _ hS2
                            have s1 := cell_of_row _ _ 1 _ _ _ hS2
                            clear hb2 hV2 hS2 HCF HB1 HRG1 HVL1 HNX1 HS1
                            cases hcb : (nx (xb, xi)).any (fun q => decide (q ∈ T')) with
                            | true =>
                              have hsome : ∃ q ∈ nx (xb, xi), q ∈ T' := by
                                rw [List.any_eq_true] at hcb
                                obtain ⟨q, h1, h2⟩ := hcb
                                exact ⟨q, h1, of_decide_eq_true h2⟩
                              have HSOME := Hid.mk hsome
                              clear hsome
                              go_wp2_with fail
                              go_roundw
                              case rel => exact ⟨again', _, cnt1, DL', T', rfl, HRG2, HLD, Hid.mk (fun kl h => HKS.out kl (by simp only [Bool.and_eq_true] at h; exact h.1)), HLF, HRI, Hid.mk (fun h => ⟨(HA0.out h).1, fun p hp hl => by
                                rcases (left_step (HLD.out.ok p hp) HXO.out).1 hl with h1 | h1
                                · exact (HA0.out h).2 p hp h1
                                · rw [h1]; exact HSOME.out⟩), HA1', HVL2, HB2⟩
                              case measure => rw [HRG2.out.left_eq, HRG.out.left_eq]; exact HCL.out
                            | false =>
                              have hnone : ∀ q ∈ nx (xb, xi), ¬ q ∈ T' := by
                                intro q h1 h2
                                rw [List.any_eq_false] at hcb
                                exact hcb q h1 (decide_eq_true h2)
                              have HNONE := Hid.mk hnone
                              have HDEL := Hid.mk (HLD.out.del HRG2.out.owns HQ.out)
                              have HLF2 : Hid (Lft nx S (fun p => p ∈ rmQ T' (xb, xi))) := Hid.mk (by
                                have h1 := HLF.out.del hnone
                                have h2 : (fun p => p ∈ T' ∧ p ≠ (xb, xi)) = fun p => p ∈ rmQ T' (xb, xi) := by funext p; exact propext mem_rmQ.symm
                                rw [h2] at h1
                                exact h1)
                              have HRI2 : Hid (bR = true → ∃ p, RR p ∧ p ∈ rmQ T' (xb, xi)) := Hid.mk (fun h => by
                                obtain ⟨p, h1, h2, h3⟩ := ring_del HLF.out (HRR.out h).1 hnone (HRI.out h)
                                exact ⟨p, h1, mem_rmQ.2 ⟨h2, h3⟩⟩)
                              have HLT : Hid ((rmQ T' (xb, xi)).length < T.length) := Hid.mk (by
                                have h1 := HDEL.out.2
                                have h2 : T'.length ≤ T.length := by
                                  cases again' with
                                  | true => exact Nat.le_of_lt (HA1'.out rfl)
                                  | false => exact Nat.le_of_eq (HA0.out rfl).1
                                omega)
                              clear hnone
                              go_wp2_with (at_delete; refine wpList_delete_ranges _ rfl _ _ 59 56 rfl 4 sq_law Tryd.underlying59 RVp wr.heap.size wz.heap.size T.length DL' _ cnt1 rfl HRG2.out _ (kyS (xb, xi)) rfl HKY.out ?_; intro w3 cnt3 hrg3 hle3 hturn3; go_frame)
                              rw [Maps.strike_twice] at hrg3
                              have HRG3 := Hid.mk hrg3
                              go_roundw
                              case rel => exact ⟨true, _, cnt3, DL'.del (kyS (xb, xi)), rmQ T' (xb, xi), rfl, HRG3, Hid.mk HDEL.out.1, Hid.mk (fun kl h => by
                                simp only [Bool.and_eq_true, Bool.not_eq_true'] at h
                                obtain ⟨q, hq, e⟩ := HKS.out kl h.1
                                refine ⟨q, mem_rmQ.2 ⟨hq, fun e2 => ?_⟩, e⟩
                                rw [e, e2, kyS_same HXO.out HXO.out] at h
                                simp at h), HLF2, HRI2, Hid.mk (fun h => by cases h), Hid.mk (fun _ => HLT.out), Hid.mk (keep_other hturn3.grown HVL2.out (by omega)), Hid.mk (Below.grown HB2.out hturn3.grown HB2.out.size (fun q hq => by cases hq; exact Nat.le_refl _))⟩
                              case measure => rw [HRG3.out.left_eq, HRG.out.left_eq]; have := HCL.out; omega
                  · intro xb xi vv w1 cnt1 hq hlk hrg1 hlt1 hg1 hs1 hen
                    have HQ := Hid.mk hq
                    have HXO := Hid.mk (HOKS.out _ hq)
                    have HXN : Hid ((xb, xi) ∉ T) := Hid.mk (fun h => by rw [(HTL.out _ hq).1 h] at hlk; cases hlk)
                    have hx := awB w1 (.cells #[.int .i64 xb, .int .i64 xi] 56)
                    have hV1 := (hx.block _ (lt_of_block (keep_other hg1 HVL.out (by have := HSZN.out; omega)))).trans (keep_other hg1 HVL.out (by have := HSZN.out; omega))
                    have HVL1 := Hid.mk hV1
                    have HM1 := Hid.mk ((HML.out.grown hg1 (fun e => by have := Option.some.inj e; have := HSZN.out; omega)).kept hx)
                    have HB1 := Hid.mk (bl2 (Below.grown HBz.out hg1 HBz.out.size (fun q hq => by cases hq; have := HSZN.out; omega)) hx)
                    have HRG1 := Hid.mk (hrg1.alloc (.cells #[.int .i64 xb, .int .i64 xi] 56))
                    have HCL := Hid.mk hlt1
                    have HTN : Hid (T.length ≤ 1000) := Hid.mk (Nat.le_trans (len_subX T S HLD.out.nodup HTS.out) HSL.out)
                    have v0 := cell_of_row _ _ 0 _ _ _ hV1
                    have hh := heap_alloc_new w1 (.cells #[.int .i64 xb, .int .i64 xi] 56)
                    have s0 := cell_of_row _ _ 0 _ _ _ hh
                    have s1 := cell_of_row _ _ 1 _ _ _ hh
                    have HKY := Hid.mk (kyQ_some HXO.out)
                    unfold plV at HKY
                    simp only at HKY
                    clear hq hlk hrg1 hlt1 hg1 hs1 hx hV1 hh HML HBz
                    go_wp2_with (at_mapUpdate; refine wpList_mapUpdate_own _ rfl _ _ _ 59 rfl 56 4 sq_law Tryd.underlying59 RVp wr.heap.size T.length DL rfl HM1.out (by have := HTN.out; unfold maxLen; omega) _ _ (kyS (xb, xi)) rfl rfl HKY.out _ [] rfl ?_
                                 intro w3 hown3 hgrow3
                                 go_frame)
                    have HRG3 := Hid.mk (HRG1.out.kept hgrow3 (fun e => by have := Option.some.inj e; have := HBML.out; omega) (fun e => by have := Option.some.inj e; have := HSZN.out; omega))
                    go_roundw
                    case rel =>
                      refine ⟨_, _, _, _, _, _, _, ?_, rfl⟩
                      exact ⟨_, cnt1, DL.put (kyS (xb, xi)) (.held (.bool true)), T ++ [(xb, xi)], HRG3, Hid.mk (by rw [List.length_append, List.length_singleton]; exact hown3), Hid.mk (HLD.out.add HM1.out HXO.out HXN.out), Hid.mk (fun kl h => HKS.out kl (by simp only [Bool.and_eq_true] at h; exact h.1)), Hid.mk (fun p hp => by rw [left_step (HOKS.out p hp) HXO.out, ← HTL.out p hp, List.mem_append, List.mem_singleton]), Hid.mk (fun p hp => by
                      rcases List.mem_append.1 hp with hp | hp
                      · exact HTS.out p hp
                      · rw [List.mem_singleton.1 hp]; exact HQ.out), Hid.mk (keep_other hgrow3 HVL1.out (by omega)), Hid.mk (Below.grown HB1.out hgrow3 HB1.out.size (fun q hq => by cases hq; exact Nat.le_refl _))⟩
                    case measure => rw [HRG3.out.left_eq, HRG.out.left_eq]; exact HCL.out
            | cons x l =>
              by_cases hlt : S.length ≤ 3000
              · obtain ⟨off, cq, hv, c0, c1', hcl, hcm, hq'⟩ := HSP.out.qu.head
                subst hv
                obtain ⟨SN, hSN⟩ : ∃ SN, SN = S.length := ⟨_, rfl⟩
                rw [← hSN] at HLEN hlt
                have hlen := HLEN.out 3
                have HSN := Hid.mk hSN
                have HXO := Hid.mk (HKW.out x (by simp)).1
                have HXF := Hid.mk (HKW.out x (by simp)).2
                obtain ⟨xb, xi⟩ := x
                obtain ⟨xn, rfl⟩ : ∃ xn : Nat, xi = xn := ⟨xi.toNat, by have := HXO.out.2.1; simp only at this; omega⟩
                simp only at c0 c1' HXF
                have HXN : Hid (xn ≤ topN lo) := Hid.mk (by have := (frEn_idW HXF.out).2.1; omega)
                have hbx := awB wr (.cells #[.int .i64 xb, .int .i64 (xn : Int)] 56)
                rcases hq' with ⟨hcq, hl0, hq'⟩ | ⟨hcq, hq'⟩
                · subst hcq
                  subst hl0
                  have HQ1 := Hid.mk ((HSP.out.rest hq').below hbx)
                  have HSZ1 : Hid (w8.heap.size + 1 ≤ (wr.alloc (.cells #[.int .i64 xb, .int .i64 (xn : Int)] 56)).heap.size) := Hid.mk (Nat.le_trans HSZ.out hbx.size)
                  have HB1 := Hid.mk (bl2 HB.out hbx)
                  have HM1 : Hid (SqMap (wr.alloc (.cells #[.int .i64 xb, .int .i64 (xn : Int)] 56)) w8.heap.size SN D) := Hid.mk (by rw [HSN.out]; exact HQ1.out.map)
                  have HGW : Hid (g < wr.heap.size) := Hid.mk HSP.out.qu.lt
                  have HGS : Hid (∀ p ∈ S, G p < wr.heap.size) := Hid.mk (fun p hp => (HSP.out.rows.row p hp).lt)
                  by_cases hin : (xb, (xn : Int)) ∈ S
                  · have HBF1 := Hid.mk (HBF.out.skip hin)
                    have HKW1 := Hid.mk (fun p (hp : p ∈ ([] : List Pl)) => HKW.out p (List.mem_cons_of_mem _ hp))
                    have HNXD := Hid.mk HSP.out.nx
                    have hdec : decide ((xb, (xn : Int)) ∈ S) = true := decide_eq_true hin
                    clear hbx hq' HSP HSZ HB HBF HKW
                    go_wp2_with (at_lookup; refine wpList_look_sq _ rfl _ _ rfl w8.heap.size SN D rfl HM1.out S V HNXD.out (xb, (xn : Int)) HXO.out _ rfl rfl ?_; rw [hdec]; intro vl)
                    go_roundg (gk - 1)
                    case measure => have := HGK.out; simp only [List.length_cons] at this; omega
                    case rel => exact ⟨S, ([] : List Pl), D, V, G, F, g, by have := HGK.out; simp only [List.length_cons] at this; omega, by have := HGM.out; omega, HQ1, HFN, HBF1, HKW1, HSZ1, HB1⟩
                  · have HBF1 := Hid.mk (HBF.out.take hin)
                    have HKW1 := Hid.mk (fun p (hp : p ∈ ([] : List Pl)) => HKW.out p (List.mem_cons_of_mem _ hp))
                    have HNXD := Hid.mk HSP.out.nx
                    have hdec : decide ((xb, (xn : Int)) ∈ S) = false := decide_eq_false hin
                    have hbe := awB (wr.alloc (.cells #[.int .i64 xb, .int .i64 (xn : Int)] 56)) (.cells #[] 56)
                    have hsa : (wr.alloc (.cells #[.int .i64 xb, .int .i64 (xn : Int)] 56)).heap.size = wr.heap.size + 1 := by simp
                    have hqn := qp_none (wr.alloc (.cells #[.int .i64 xb, .int .i64 (xn : Int)] 56)) (w8.heap.size + 1) HSZ1.out
                    rw [hsa] at hqn
                    have HQE := Hid.mk hqn
                    have HQ2 := Hid.mk (HQ1.out.below hbe)
                    have HFS := Hid.mk (fun p (hp : p ∈ S) => show G p ≠ wr.heap.size + 1 from by have h1 := (HQ1.out.rows.row p hp).lt; rw [hsa] at h1; omega)
                    have HGQ : Hid (wr.heap.size + 1 ≠ g) := Hid.mk (by have h1 := HQ1.out.qu.lt; rw [hsa] at h1; omega)
                    have HB2 := Hid.mk (bl2 HB1.out hbe)
                    have HM2 : Hid (SqMap ((wr.alloc (.cells #[.int .i64 xb, .int .i64 (xn : Int)] 56)).alloc (.cells #[] 56)) w8.heap.size SN D) := Hid.mk (by rw [HSN.out]; exact HQ2.out.map)
                    have HIN := Hid.mk hin
                    have HSZW : Hid (w8.heap.size + 1 ≤ wr.heap.size) := HSZ
                    have HXB := Hid.mk ((hbe.block wr.heap.size (by simp)).trans (heap_alloc_new wr (.cells #[.int .i64 xb, .int .i64 (xn : Int)] 56)))
                    have HKY := Hid.mk (kyQ_some HXO.out)
                    unfold plV at HKY
                    simp only at HKY
                    clear hbx hq' HSP HSZ HB HBF HKW hbe hsa hqn hin
                    go_wp2_with (first
                      | (at_lookup; refine wpList_look_sq _ rfl _ _ rfl w8.heap.size SN D rfl HM1.out S V HNXD.out (xb, (xn : Int)) HXO.out _ rfl rfl ?_; rw [hdec]; intro vl)
                      | (at_mapUpdate; refine wpList_mapUpdate_own _ rfl _ _ _ 54 rfl 56 57 sq_law Tryd.underlying54 RVp w8.heap.size SN D rfl HM2.out (by unfold maxLen; omega) _ _ (kyS (xb, (xn : Int))) rfl rfl HKY.out _ [] rfl ?_
                         intro w3 hown3 hgrow3
                         have HQ3 := Hid.mk (HQ2.out.new HIN.out HXO.out HQE.out HFS.out HGQ.out hown3 hgrow3)
                         have HB3 := Hid.mk (Below.grown HB2.out hgrow3 HB2.out.size (fun q hq => by cases hq; exact Nat.le_refl _))
                         have HX3 := Hid.mk ((hgrow3.block wr.heap.size (by simp; omega) (fun e => by have := Option.some.inj e; have := HSZW.out; omega)).trans HXB.out)
                         have hfa := awB w3 (.cells #[.int .i64 id, .bool lo, .bool fa, .bool re, .int .i64 sz, .slice fa0 len cap] 28)
                         obtain ⟨q0, q1, q2, q3, q4, q5⟩ := (HF8.out.kept HB3.out).fr
                         have hx4 := (hfa.block _ (Array.getElem?_eq_some_iff.1 HX3.out).1).trans HX3.out
                         have j0 := cell_of_row _ _ 0 _ _ _ hx4
                         have j1 := cell_of_row _ _ 1 _ _ _ hx4
                         clear hfa hx4
                         clear hown3 hgrow3))
                    have hx3 : w3.heap[wr.heap.size]? = some (.cells #[.int .i64 (xb, (xn : Int)).1, .int .i64 (xb, (xn : Int)).2] 56 (0, 0)) := HX3.out
                    have hent := SpI.enter (lo := lo) (fa := fa) (re := re) (sz := sz) (fa0 := fa0) (len := len) (cap := cap) HQ3.out hx3 (by have := HSZW.out; omega) (by have := HGW.out; omega) (fun p hp => by
                      rcases List.mem_append.1 hp with hp | hp
                      · have hne : p ≠ (xb, (xn : Int)) := fun e => HIN.out (e ▸ hp)
                        rw [put1_other _ _ hne]; have := HGS.out p hp; omega
                      · rw [List.mem_singleton.1 hp, put1_same]; omega)
                    have HI4 := Hid.mk hent.1
                    have HB4 := Hid.mk (bl2 HB3.out hent.2)
                    clear hx3 hent HQ1 HQ2 HQE HFS HGQ HM1 HM2 HQ3 HX3 HB1 HB2 HB3 HSZ1 q0 q1 q2 q3 q4 q5 j0 j1
                    generalize w3.alloc (.cells #[.int .i64 (xn : Int), .bool lo, .bool fa, .bool re, .int .i64 sz, .slice fa0 len cap] 28) = W4 at *
                    go_loopw [12, 119] (fun vq s119 wz => ∃ (k : Nat) (D' : DVp) (V' : Pl → Value) (G' : Pl → Nat) (F' : Pl → List Pl) (g' : Nat) (Wk' : List Pl) (vX : Value), k ≤ n ∧ vX = vq ∧ s119 = .int .i64 k ∧ Hid (SpI wz (w8.heap.size + 1) w8.heap.size g' wr.heap.size w3.heap.size (S ++ [(xb, (xn : Int))]) D' V' G' F' vX Wk' (xb, (xn : Int)) lo fa re sz fa0 len cap) ∧ Hid (Wk' = ([] : List Pl) ++ nxt (rs.take k) lo fa re sz len (xb, (xn : Int))) ∧ Hid (F' (xb, (xn : Int)) = nxt (rs.take k) lo fa re sz len (xb, (xn : Int))) ∧ Hid (∀ p ∈ S, F' p = nx p) ∧ Hid (∀ p ∈ Wk', okQ p ∧ frEn p.2 lo fa re sz len = 0) ∧ Hid (Below w8.heap.size w8 wz)) (fun _ i _ => n - (intOf i).toNat)
                    case atStart => exact ⟨0, _, _, _, _, g, ([] : List Pl), _, Nat.zero_le _, rfl, rfl, HI4, Hid.mk (by simp [nxt]), Hid.mk (by rw [put1_same]; simp [nxt]), Hid.mk (fun p hp => by have hne : p ≠ (xb, (xn : Int)) := fun e => HIN.out (e ▸ hp); rw [put1_other _ _ hne]; exact HFN.out p hp), HKW1, HB4⟩
                    case round =>
                      clear HI4 HB4
                      obtain ⟨k, D', V', G', F', g', Wk', vq, hk, rfl, rfl, HI, HWE, HFX, HFO, HKK, HBz⟩ := hrel
                      rename World => wz
                      by_cases hlk : k < n
                      · have hlk' : (k : Int) < (n : Int) := by omega
                        obtain ⟨xa, rfl⟩ := HR8.out.some hlk
                        obtain ⟨c0, c1, c2, c3, c4, c5, c6⟩ := (HR8.out.kept HBz.out).cell xa rfl k hlk
                        obtain ⟨r, hr⟩ : ∃ r, r = rs.getD k noR := ⟨_, rfl⟩
                        have hokr := allR_at HALL.out (j := k) (by rw [HLN.out]; exact hlk)
                        rw [← hr] at hokr c0 c1 c2 c3 c4 c5 c6
                        have hokf : okFl r.f = true := by unfold okR at hokr; simp at hokr; exact hokr.1.2
                        have hokad : addB r = true := by unfold okR at hokr; simp at hokr; exact hokr.2
                        have HTB : Hid (0 ≤ r.tb ∧ r.tb < 4) := Hid.mk (by unfold okR fitR at hokr; simp at hokr; omega)
                        have hb1 := awB wz (rtC r)
                        have HB1 := Hid.mk (bl2 HBz.out hb1)
                        have HI1 := Hid.mk (HI.out.below hb1)
                        have HV1 := Hid.mk (heap_alloc_new wz (rtC r))
                        have HCR := Hid.mk (lcar_any r xb xn lo fa re sz fa0 len cap (wz.alloc (rtC r)) hokf hokad HLM.out HXN.out)
                        have HNA : Hid (nxt (rs.take (k + 1)) lo fa re sz len (xb, (xn : Int)) = nxt (rs.take k) lo fa re sz len (xb, (xn : Int)) ++ (if carB r xb xn lo fa re sz len = true then [(r.tb, (xn : Int) + r.add)] else [])) := Hid.mk (by
                          have hkl : k < rs.length := by rw [HLN.out]; exact hlk
                          rw [List.take_succ_eq_append_getElem hkl, nxt_add]
                          rw [show rs[k] = r by rw [hr]; simp [List.getD, hkl]]
                          simp only [Int.toNat_natCast])
                        have HCT : Hid (carB r xb xn lo fa re sz len = true → frEn ((xn : Int) + r.add) lo fa re sz len = 0) := Hid.mk (fun h => by unfold carB at h; simp at h; exact h.2)
                        generalize carB r xb xn lo fa re sz len = CB at *
                        obtain ⟨p0, p1, p2, p3, p4, p5⟩ := HI1.out.fr.fr
                        obtain ⟨s0, s1⟩ := HI1.out.cells
                        simp only at p0 s0 s1
                        clear hr hb1 hokf hokad hokr
                        obtain ⟨fr, tb, ⟨fw, fm, flo⟩, add, ev⟩ := r
                        unfold rtC at HB1 HI1 HV1 HCR p0 p1 p2 p3 p4 p5 s0 s1
                        unfold Rt.val at HCR
                        unfold frameV at HCR
                        simp only at c0 c1 c2 c3 c4 c5 c6 HB1 HI1 HV1 HCR HNA HCT HTB p0 p1 p2 p3 p4 p5 s0 s1
                        go_wp2_with fail
                        generalize wz.alloc (.cells #[.int .i64 fr, .int .i64 tb, .int .i64 fw, .int .i64 fm, .bool flo, .int .i64 add, .int .i64 ev] 45) = W1 at *
                        refine HCR.out.mono ?_
                        rintro e w2 ⟨⟨i', rfl, himp⟩, hb2⟩
                        have hb3 := awB w2 (frameC i' lo fa re sz fa0 len cap)
                        have HI2 := Hid.mk (HI1.out.below hb2)
                        have HI3 := Hid.mk (HI2.out.below hb3)
                        have HB3 := Hid.mk (bl2 HB1.out (bl2 hb2 hb3))
                        have HV3 := Hid.mk (((bl2 hb2 hb3).block wz.heap.size (lt_of_block HV1.out)).trans HV1.out)
                        have HY3 := Hid.mk (heap_alloc_new w2 (frameC i' lo fa re sz fa0 len cap))
                        have HVY : Hid (wz.heap.size < w2.heap.size) := Hid.mk (Nat.lt_of_lt_of_le (lt_of_block HV1.out) hb2.size)
                        have HIM := Hid.mk himp
                        unfold frameC at HI3 HB3 HV3 HY3
                        clear hb2 hb3 himp HCR HI1 HI2 HV1 HB1 p0 p1 p2 p3 p4 p5 s0 s1 c0 c1 c2 c3 c4 c5 c6
                        go_upto_region 28 with fail
                        generalize w2.alloc (.cells #[.int .i64 i', .bool lo, .bool fa, .bool re, .int .i64 sz, .slice fa0 len cap] 28) = W3 at *
                        cases CB with
                        | false =>
                          have HN0 := HNA.out
                          simp only [Bool.false_eq_true, if_false, List.append_nil] at HN0
                          clear HNA HCT HIM
                          go_wp2_with fail
                          go_roundw
                          case rel => exact ⟨k + 1, D', V', G', F', g', Wk', _, by omega, rfl, by go_num, HI3, Hid.mk (by rw [HN0]; exact HWE.out), Hid.mk (by rw [HN0]; exact HFX.out), HFO, HKK, HB3⟩
                          case measure => simp [intOf]; omega
                        | true =>
                          have HN0 := HNA.out
                          simp only [if_true] at HN0
                          have hii := HIM.out rfl
                          rw [← hii] at HN0
                          have HN0 := Hid.mk HN0
                          have HFI := Hid.mk (HCT.out rfl)
                          rw [← hii] at HFI
                          clear hii HNA HCT HIM
                          obtain ⟨s0, s1⟩ := HI3.out.cells
                          simp only at s0 s1
                          have v1 := cell_of_row _ _ 1 _ _ _ HV3.out
                          have y0 := cell_of_row _ _ 0 _ _ _ HY3.out
                          have hbn := awB W3 (.cells #[.int .i64 tb, .int .i64 i'] 56)
                          have HE3 := Hid.mk (HI3.out.below hbn)
                          have HB4' := Hid.mk (bl2 HB3.out hbn)
                          have HV4' := Hid.mk ((hbn.block _ (lt_of_block HV3.out)).trans HV3.out)
                          have HY4' := Hid.mk ((hbn.block _ (lt_of_block HY3.out)).trans HY3.out)
                          have HNW := Hid.mk (heap_alloc_new W3 (.cells #[.int .i64 tb, .int .i64 i'] 56))
                          have HZE := Hid.mk (lt_of_block HV3.out)
                          have HZF := Hid.mk (lt_of_block HY3.out)
                          have HMEM : Hid ((xb, (xn : Int)) ∈ S ++ [(xb, (xn : Int))]) := Hid.mk (by simp)
                          have HGL := Hid.mk ((HI.out.sp.rows.row _ HMEM.out).lt)
                          have HGB := Hid.mk ((HI.out.sp.rows.row _ HMEM.out).hg)
                          have HML := Hid.mk HI.out.sp.map.lt
                          have HSL : Hid ((S ++ [(xb, (xn : Int))]).length < maxLen) := Hid.mk (by rw [List.length_append, List.length_singleton]; unfold maxLen; have := HSN.out; omega)
                          have HFL : Hid ((F' (xb, (xn : Int))).length ≤ 20) := Hid.mk (by rw [HFX.out]; unfold nxt; refine Nat.le_trans (List.length_filterMap_le _ _) ?_; rw [List.length_take]; have := HLN.out; have := HN20.out; omega)
                          have HKL : Hid (Wk'.length ≤ 70000) := Hid.mk (by rw [HWE.out, List.length_append]; have h1 := HFL.out; rw [HFX.out] at h1; have h2 := HGM.out; have h3 := HGK.out; simp only [List.length_cons] at h3; omega)
                          clear hbn s0 s1 v1 y0 HI HBz
                          obtain ⟨s0, s1⟩ := HI3.out.cells
                          simp only at s0 s1
                          have v1 := cell_of_row _ _ 1 _ _ _ HV3.out
                          have y0 := cell_of_row _ _ 0 _ _ _ HY3.out
                          go_wp2_with (first
                            | (refine wpList_mapEntry_own _ rfl _ _ 54 rfl 56 57 sq_law sq_klaw Tryd.underlying54 RVp w8.heap.size _ D' rfl HE3.out.sp.map HSL.out (.slice none 0 0) zero_sps (.held (.slice none 0 0)) [] rfl _ (kyS (xb, (xn : Int))) rfl HKY.out ?_
                               intro v0 st w4 ps0 hg4 hv4 hst4
                               have e0 := HE3.out.sp.found HMEM.out hv4
                               subst e0
                               have HE4 : Hid (SpE (W3.alloc (.cells #[.int .i64 tb, .int .i64 i'] 56)) w4 (w8.heap.size + 1) w8.heap.size g' wr.heap.size w3.heap.size (S ++ [(xb, (xn : Int))]) D' V' G' F' vq Wk' (xb, (xn : Int)) lo fa re sz fa0 len cap) := Hid.mk ⟨HE3.out, hg4⟩
                               have HST := Hid.mk hst4
                               have HNW4 := Hid.mk (keep_other hg4 HNW.out (by have := HML.out; have := HZE.out; have := HVY.out; omega))
                               have HV4 := Hid.mk (keep_other hg4 HV4'.out (by have := HML.out; omega))
                               have HY4 := Hid.mk (keep_other hg4 HY4'.out (by have := HML.out; have := HVY.out; omega))
                               have HB5' := Hid.mk (below_mapQ HB4'.out hg4 (Nat.le_refl _))
                               have HG4 := Hid.mk hg4.size
                               clear hg4 hv4 hst4)
                            | (at_builtin
                               refine wpList_append_qp _ rfl (.tmp 134) (.tmp 140) rfl (w8.heap.size + 1) (G' (xb, (xn : Int))) (V' (xb, (xn : Int))) (F' (xb, (xn : Int))) [(tb, i')] ⟨W3.heap.size, 0, none⟩ 1 1 rfl rfl rfl (by decide) (HE4.out.row HMEM.out) (two_at HNW4.out) (by have := HFL.out; simp only [List.length_singleton]; omega) (by have := HML.out; have := HVY.out; have := HZE.out; have := HG4.out; simp only [size_alloc] at this; omega) ?_
                               intro v5 w5 g5 hq5 hgr5 hn5
                               obtain ⟨w6, hrun6, hown6, hg6⟩ := HST.out w5 v5 (.held v5) [] (hgr5.block _ (by have := HML.out; have := HVY.out; have := HZE.out; have := HG4.out; simp only [size_alloc] at this; omega) (fun e => by have := Option.some.inj e; have := HGB.out; omega)) rfl
                               have HI6 := Hid.mk (HE4.out.push HMEM.out hgr5 hn5 hq5 hg6 hown6)
                               have HV6 := Hid.mk (keep_other hg6 (keep_other hgr5 HV4.out (by have := HGL.out; omega)) (by have := HML.out; omega))
                               have HY6 := Hid.mk (keep_other hg6 (keep_other hgr5 HY4.out (by have := HGL.out; have := HVY.out; omega)) (by have := HML.out; have := HVY.out; omega))
                               have HB6 := Hid.mk (below_mapQ (Below.grown HB5'.out hgr5 HB5'.out.size (fun q hq => by cases hq; have := HGB.out; omega)) hg6 (Nat.le_refl _))
                               have HRUN := Hid.mk hrun6
                               clear hq5 hgr5 hn5 hrun6 hown6 hg6 s0 s1 v1 y0)
                            | (refine wpList_entryStore_own _ rfl _ _ _ 54 rfl w8.heap.size rfl _ _ rfl rfl w6 HRUN.out ?_
                               have v1 := cell_of_row _ _ 1 _ _ _ HV6.out
                               have y0 := cell_of_row _ _ 0 _ _ _ HY6.out
                               have hbm := awB w6 (.cells #[.int .i64 tb, .int .i64 i'] 56)
                               have HI7 := Hid.mk (HI6.out.below hbm)
                               have HB7 := Hid.mk (bl2 HB6.out hbm)
                               have HN7 := Hid.mk (heap_alloc_new w6 (.cells #[.int .i64 tb, .int .i64 i'] 56))
                               clear hbm)
                            | (at_builtin
                               refine wpList_append_qp _ rfl (.tmp 144) (.tmp 150) rfl (w8.heap.size + 1) g' vq Wk' [(tb, i')] ⟨w6.heap.size, 0, none⟩ 1 1 rfl rfl rfl (by decide) HI7.out.sp.qu (two_at HN7.out) (by have := HKL.out; simp only [List.length_singleton]; omega) (by have := HI6.out.sp.map.lt; simp only [size_alloc]; omega) ?_
                               intro v8 w9 g8 hq8 hgr8 hn8
                               have HI9 := Hid.mk (HI7.out.queue hgr8 hn8 hq8)
                               have HB9 := Hid.mk (Below.grown HB7.out hgr8 HB7.out.size (fun q hq => by cases hq; have := HI7.out.sp.qu.hg; omega))
                               clear hq8 hgr8 hn8))
                          go_roundw
                          case rel => exact ⟨k + 1, _, _, _, _, g8, Wk' ++ [(tb, i')], _, by omega, rfl, by go_num, HI9, Hid.mk (by rw [HN0.out, HWE.out, List.append_assoc]), Hid.mk (by rw [put1_same, HN0.out, HFX.out]), Hid.mk (fun p hp => by have hne : p ≠ (xb, (xn : Int)) := fun e => HIN.out (e ▸ hp); rw [put1_other _ _ hne]; exact HFO.out p hp), Hid.mk (fun p hp => by
                            rcases List.mem_append.1 hp with hp | hp
                            · exact HKK.out p hp
                            · rw [List.mem_singleton] at hp; subst hp; exact ⟨⟨HTB.out, by have := frEn_idW HFI.out; simp only; omega⟩, HFI.out⟩), HB9⟩
                          case measure => simp [intOf]; omega
                      · obtain rfl : k = n := by omega
                        have HTK : Hid (rs.take k = rs) := Hid.mk (List.take_of_length_le (by rw [HLN.out]; exact Nat.le_refl _))
                        have HLX : Hid ((nx (xb, (xn : Int))).length ≤ 20) := Hid.mk (by rw [HNX.out]; unfold nxt; refine Nat.le_trans (List.length_filterMap_le _ _) ?_; have := HLN.out; have := HN20.out; omega)
                        have HWE2 : Hid (Wk' = ([] : List Pl) ++ nx (xb, (xn : Int))) := Hid.mk (by rw [HWE.out, HTK.out, HNX.out])
                        have HBF2 := HBF1.out
                        rw [← HWE2.out] at HBF2
                        have HBF2 := Hid.mk HBF2
                        go_wp2_with fail
                        go_roundg (gk - 1)
                        case measure => have := HGK.out; simp only [List.length_cons] at this; omega
                        case rel => exact ⟨S ++ [(xb, (xn : Int))], Wk', D', V', G', F', g', by have := HGK.out; have := HLX.out; rw [HWE2.out]; have := HSN.out; rw [List.length_append, List.length_append, List.length_singleton]; have h9 := HGK.out; simp only [List.length_cons] at h9; omega, by have := HGM.out; omega, Hid.mk HI.out.sp, Hid.mk (fun p hp => by
                          rcases List.mem_append.1 hp with hp | hp
                          · exact HFO.out p hp
                          · rw [List.mem_singleton.1 hp, HFX.out, HTK.out, HNX.out]), HBF2, HKK, Hid.mk (Nat.le_trans (Nat.succ_le_of_lt HI.out.sp.map.lt) (Nat.le_refl _)), HBz⟩
                · skip
                  have HQ1 := Hid.mk ((HSP.out.rest hq').below hbx)
                  have HSZ1 : Hid (w8.heap.size + 1 ≤ (wr.alloc (.cells #[.int .i64 xb, .int .i64 (xn : Int)] 56)).heap.size) := Hid.mk (Nat.le_trans HSZ.out hbx.size)
                  have HB1 := Hid.mk (bl2 HB.out hbx)
                  have HM1 : Hid (SqMap (wr.alloc (.cells #[.int .i64 xb, .int .i64 (xn : Int)] 56)) w8.heap.size SN D) := Hid.mk (by rw [HSN.out]; exact HQ1.out.map)
                  have HGW : Hid (g < wr.heap.size) := Hid.mk HSP.out.qu.lt
                  have HGS : Hid (∀ p ∈ S, G p < wr.heap.size) := Hid.mk (fun p hp => (HSP.out.rows.row p hp).lt)
                  by_cases hin : (xb, (xn : Int)) ∈ S
                  · have HBF1 := Hid.mk (HBF.out.skip hin)
                    have HKW1 := Hid.mk (fun p (hp : p ∈ l) => HKW.out p (List.mem_cons_of_mem _ hp))
                    have HNXD := Hid.mk HSP.out.nx
                    have hdec : decide ((xb, (xn : Int)) ∈ S) = true := decide_eq_true hin
                    clear hbx hq' HSP HSZ HB HBF HKW
                    go_wp2_with (at_lookup; refine wpList_look_sq _ rfl _ _ rfl w8.heap.size SN D rfl HM1.out S V HNXD.out (xb, (xn : Int)) HXO.out _ rfl rfl ?_; rw [hdec]; intro vl)
                    go_roundg (gk - 1)
                    case measure => have := HGK.out; simp only [List.length_cons] at this; omega
                    case rel => exact ⟨S, l, D, V, G, F, g, by have := HGK.out; simp only [List.length_cons] at this; omega, by have := HGM.out; omega, HQ1, HFN, HBF1, HKW1, HSZ1, HB1⟩
                  · have HBF1 := Hid.mk (HBF.out.take hin)
                    have HKW1 := Hid.mk (fun p (hp : p ∈ l) => HKW.out p (List.mem_cons_of_mem _ hp))
                    have HNXD := Hid.mk HSP.out.nx
                    have hdec : decide ((xb, (xn : Int)) ∈ S) = false := decide_eq_false hin
                    have hbe := awB (wr.alloc (.cells #[.int .i64 xb, .int .i64 (xn : Int)] 56)) (.cells #[] 56)
                    have hsa : (wr.alloc (.cells #[.int .i64 xb, .int .i64 (xn : Int)] 56)).heap.size = wr.heap.size + 1 := by simp
                    have hqn := qp_none (wr.alloc (.cells #[.int .i64 xb, .int .i64 (xn : Int)] 56)) (w8.heap.size + 1) HSZ1.out
                    rw [hsa] at hqn
                    have HQE := Hid.mk hqn
                    have HQ2 := Hid.mk (HQ1.out.below hbe)
                    have HFS := Hid.mk (fun p (hp : p ∈ S) => show G p ≠ wr.heap.size + 1 from by have h1 := (HQ1.out.rows.row p hp).lt; rw [hsa] at h1; omega)
                    have HGQ : Hid (wr.heap.size + 1 ≠ g) := Hid.mk (by have h1 := HQ1.out.qu.lt; rw [hsa] at h1; omega)
                    have HB2 := Hid.mk (bl2 HB1.out hbe)
                    have HM2 : Hid (SqMap ((wr.alloc (.cells #[.int .i64 xb, .int .i64 (xn : Int)] 56)).alloc (.cells #[] 56)) w8.heap.size SN D) := Hid.mk (by rw [HSN.out]; exact HQ2.out.map)
                    have HIN := Hid.mk hin
                    have HSZW : Hid (w8.heap.size + 1 ≤ wr.heap.size) := HSZ
                    have HXB := Hid.mk ((hbe.block wr.heap.size (by simp)).trans (heap_alloc_new wr (.cells #[.int .i64 xb, .int .i64 (xn : Int)] 56)))
                    have HKY := Hid.mk (kyQ_some HXO.out)
                    unfold plV at HKY
                    simp only at HKY
                    clear hbx hq' HSP HSZ HB HBF HKW hbe hsa hqn hin
                    go_wp2_with (first
                      | (at_lookup; refine wpList_look_sq _ rfl _ _ rfl w8.heap.size SN D rfl HM1.out S V HNXD.out (xb, (xn : Int)) HXO.out _ rfl rfl ?_; rw [hdec]; intro vl)
                      | (at_mapUpdate; refine wpList_mapUpdate_own _ rfl _ _ _ 54 rfl 56 57 sq_law Tryd.underlying54 RVp w8.heap.size SN D rfl HM2.out (by unfold maxLen; omega) _ _ (kyS (xb, (xn : Int))) rfl rfl HKY.out _ [] rfl ?_
                         intro w3 hown3 hgrow3
                         have HQ3 := Hid.mk (HQ2.out.new HIN.out HXO.out HQE.out HFS.out HGQ.out hown3 hgrow3)
                         have HB3 := Hid.mk (Below.grown HB2.out hgrow3 HB2.out.size (fun q hq => by cases hq; exact Nat.le_refl _))
                         have HX3 := Hid.mk ((hgrow3.block wr.heap.size (by simp; omega) (fun e => by have := Option.some.inj e; have := HSZW.out; omega)).trans HXB.out)
                         have hfa := awB w3 (.cells #[.int .i64 id, .bool lo, .bool fa, .bool re, .int .i64 sz, .slice fa0 len cap] 28)
                         obtain ⟨q0, q1, q2, q3, q4, q5⟩ := (HF8.out.kept HB3.out).fr
                         have hx4 := (hfa.block _ (Array.getElem?_eq_some_iff.1 HX3.out).1).trans HX3.out
                         have j0 := cell_of_row _ _ 0 _ _ _ hx4
                         have j1 := cell_of_row _ _ 1 _ _ _ hx4
                         clear hfa hx4
                         clear hown3 hgrow3))
                    have hx3 : w3.heap[wr.heap.size]? = some (.cells #[.int .i64 (xb, (xn : Int)).1, .int .i64 (xb, (xn : Int)).2] 56 (0, 0)) := HX3.out
                    have hent := SpI.enter (lo := lo) (fa := fa) (re := re) (sz := sz) (fa0 := fa0) (len := len) (cap := cap) HQ3.out hx3 (by have := HSZW.out; omega) (by have := HGW.out; omega) (fun p hp => by
                      rcases List.mem_append.1 hp with hp | hp
                      · have hne : p ≠ (xb, (xn : Int)) := fun e => HIN.out (e ▸ hp)
                        rw [put1_other _ _ hne]; have := HGS.out p hp; omega
                      · rw [List.mem_singleton.1 hp, put1_same]; omega)
                    have HI4 := Hid.mk hent.1
                    have HB4 := Hid.mk (bl2 HB3.out hent.2)
                    clear hx3 hent HQ1 HQ2 HQE HFS HGQ HM1 HM2 HQ3 HX3 HB1 HB2 HB3 HSZ1 q0 q1 q2 q3 q4 q5 j0 j1
                    generalize w3.alloc (.cells #[.int .i64 (xn : Int), .bool lo, .bool fa, .bool re, .int .i64 sz, .slice fa0 len cap] 28) = W4 at *
                    go_loopw [12, 119] (fun vq s119 wz => ∃ (k : Nat) (D' : DVp) (V' : Pl → Value) (G' : Pl → Nat) (F' : Pl → List Pl) (g' : Nat) (Wk' : List Pl) (vX : Value), k ≤ n ∧ vX = vq ∧ s119 = .int .i64 k ∧ Hid (SpI wz (w8.heap.size + 1) w8.heap.size g' wr.heap.size w3.heap.size (S ++ [(xb, (xn : Int))]) D' V' G' F' vX Wk' (xb, (xn : Int)) lo fa re sz fa0 len cap) ∧ Hid (Wk' = l ++ nxt (rs.take k) lo fa re sz len (xb, (xn : Int))) ∧ Hid (F' (xb, (xn : Int)) = nxt (rs.take k) lo fa re sz len (xb, (xn : Int))) ∧ Hid (∀ p ∈ S, F' p = nx p) ∧ Hid (∀ p ∈ Wk', okQ p ∧ frEn p.2 lo fa re sz len = 0) ∧ Hid (Below w8.heap.size w8 wz)) (fun _ i _ => n - (intOf i).toNat)
                    case atStart => exact ⟨0, _, _, _, _, g, l, _, Nat.zero_le _, rfl, rfl, HI4, Hid.mk (by simp [nxt]), Hid.mk (by rw [put1_same]; simp [nxt]), Hid.mk (fun p hp => by have hne : p ≠ (xb, (xn : Int)) := fun e => HIN.out (e ▸ hp); rw [put1_other _ _ hne]; exact HFN.out p hp), HKW1, HB4⟩
                    case round =>
                      clear HI4 HB4
                      obtain ⟨k, D', V', G', F', g', Wk', vq, hk, rfl, rfl, HI, HWE, HFX, HFO, HKK, HBz⟩ := hrel
                      rename World => wz
                      by_cases hlk : k < n
                      · have hlk' : (k : Int) < (n : Int) := by omega
                        obtain ⟨xa, rfl⟩ := HR8.out.some hlk
                        obtain ⟨c0, c1, c2, c3, c4, c5, c6⟩ := (HR8.out.kept HBz.out).cell xa rfl k hlk
                        obtain ⟨r, hr⟩ : ∃ r, r = rs.getD k noR := ⟨_, rfl⟩
                        have hokr := allR_at HALL.out (j := k) (by rw [HLN.out]; exact hlk)
                        rw [← hr] at hokr c0 c1 c2 c3 c4 c5 c6
                        have hokf : okFl r.f = true := by unfold okR at hokr; simp at hokr; exact hokr.1.2
                        have hokad : addB r = true := by unfold okR at hokr; simp at hokr; exact hokr.2
                        have HTB : Hid (0 ≤ r.tb ∧ r.tb < 4) := Hid.mk (by unfold okR fitR at hokr; simp at hokr; omega)
                        have hb1 := awB wz (rtC r)
                        have HB1 := Hid.mk (bl2 HBz.out hb1)
                        have HI1 := Hid.mk (HI.out.below hb1)
                        have HV1 := Hid.mk (heap_alloc_new wz (rtC r))
                        have HCR := Hid.mk (lcar_any r xb xn lo fa re sz fa0 len cap (wz.alloc (rtC r)) hokf hokad HLM.out HXN.out)
                        have HNA : Hid (nxt (rs.take (k + 1)) lo fa re sz len (xb, (xn : Int)) = nxt (rs.take k) lo fa re sz len (xb, (xn : Int)) ++ (if carB r xb xn lo fa re sz len = true then [(r.tb, (xn : Int) + r.add)] else [])) := Hid.mk (by
                          have hkl : k < rs.length := by rw [HLN.out]; exact hlk
                          rw [List.take_succ_eq_append_getElem hkl, nxt_add]
                          rw [show rs[k] = r by rw [hr]; simp [List.getD, hkl]]
                          simp only [Int.toNat_natCast])
                        have HCT : Hid (carB r xb xn lo fa re sz len = true → frEn ((xn : Int) + r.add) lo fa re sz len = 0) := Hid.mk (fun h => by unfold carB at h; simp at h; exact h.2)
                        generalize carB r xb xn lo fa re sz len = CB at *
                        obtain ⟨p0, p1, p2, p3, p4, p5⟩ := HI1.out.fr.fr
                        obtain ⟨s0, s1⟩ := HI1.out.cells
                        simp only at p0 s0 s1
                        clear hr hb1 hokf hokad hokr
                        obtain ⟨fr, tb, ⟨fw, fm, flo⟩, add, ev⟩ := r
                        unfold rtC at HB1 HI1 HV1 HCR p0 p1 p2 p3 p4 p5 s0 s1
                        unfold Rt.val at HCR
                        unfold frameV at HCR
                        simp only at c0 c1 c2 c3 c4 c5 c6 HB1 HI1 HV1 HCR HNA HCT HTB p0 p1 p2 p3 p4 p5 s0 s1
                        go_wp2_with fail
                        generalize wz.alloc (.cells #[.int .i64 fr, .int .i64 tb, .int .i64 fw, .int .i64 fm, .bool flo, .int .i64 add, .int .i64 ev] 45) = W1 at *
                        refine HCR.out.mono ?_
                        rintro e w2 ⟨⟨i', rfl, himp⟩, hb2⟩
                        have hb3 := awB w2 (frameC i' lo fa re sz fa0 len cap)
                        have HI2 := Hid.mk (HI1.out.below hb2)
                        have HI3 := Hid.mk (HI2.out.below hb3)
                        have HB3 := Hid.mk (bl2 HB1.out (bl2 hb2 hb3))
                        have HV3 := Hid.mk (((bl2 hb2 hb3).block wz.heap.size (lt_of_block HV1.out)).trans HV1.out)
                        have HY3 := Hid.mk (heap_alloc_new w2 (frameC i' lo fa re sz fa0 len cap))
                        have HVY : Hid (wz.heap.size < w2.heap.size) := Hid.mk (Nat.lt_of_lt_of_le (lt_of_block HV1.out) hb2.size)
                        have HIM := Hid.mk himp
                        unfold frameC at HI3 HB3 HV3 HY3
                        clear hb2 hb3 himp HCR HI1 HI2 HV1 HB1 p0 p1 p2 p3 p4 p5 s0 s1 c0 c1 c2 c3 c4 c5 c6
                        go_upto_region 28 with fail
                        generalize w2.alloc (.cells #[.int .i64 i', .bool lo, .bool fa, .bool re, .int .i64 sz, .slice fa0 len cap] 28) = W3 at *
                        cases CB with
                        | false =>
                          have HN0 := HNA.out
                          simp only [Bool.false_eq_true, if_false, List.append_nil] at HN0
                          clear HNA HCT HIM
                          go_wp2_with fail
                          go_roundw
                          case rel => exact ⟨k + 1, D', V', G', F', g', Wk', _, by omega, rfl, by go_num, HI3, Hid.mk (by rw [HN0]; exact HWE.out), Hid.mk (by rw [HN0]; exact HFX.out), HFO, HKK, HB3⟩
                          case measure => simp [intOf]; omega
                        | true =>
                          have HN0 := HNA.out
                          simp only [if_true] at HN0
                          have hii := HIM.out rfl
                          rw [← hii] at HN0
                          have HN0 := Hid.mk HN0
                          have HFI := Hid.mk (HCT.out rfl)
                          rw [← hii] at HFI
                          clear hii HNA HCT HIM
                          obtain ⟨s0, s1⟩ := HI3.out.cells
                          simp only at s0 s1
                          have v1 := cell_of_row _ _ 1 _ _ _ HV3.out
                          have y0 := cell_of_row _ _ 0 _ _ _ HY3.out
                          have hbn := awB W3 (.cells #[.int .i64 tb, .int .i64 i'] 56)
                          have HE3 := Hid.mk (HI3.out.below hbn)
                          have HB4' := Hid.mk (bl2 HB3.out hbn)
                          have HV4' := Hid.mk ((hbn.block _ (lt_of_block HV3.out)).trans HV3.out)
                          have HY4' := Hid.mk ((hbn.block _ (lt_of_block HY3.out)).trans HY3.out)
                          have HNW := Hid.mk (heap_alloc_new W3 (.cells #[.int .i64 tb, .int .i64 i'] 56))
                          have HZE := Hid.mk (lt_of_block HV3.out)
                          have HZF := Hid.mk (lt_of_block HY3.out)
                          have HMEM : Hid ((xb, (xn : Int)) ∈ S ++ [(xb, (xn : Int))]) := Hid.mk (by simp)
                          have HGL := Hid.mk ((HI.out.sp.rows.row _ HMEM.out).lt)
                          have HGB := Hid.mk ((HI.out.sp.rows.row _ HMEM.out).hg)
                          have HML := Hid.mk HI.out.sp.map.lt
                          have HSL : Hid ((S ++ [(xb, (xn : Int))]).length < maxLen) := Hid.mk (by rw [List.length_append, List.length_singleton]; unfold maxLen; have := HSN.out; omega)
                          have HFL : Hid ((F' (xb, (xn : Int))).length ≤ 20) := Hid.mk (by rw [HFX.out]; unfold nxt; refine Nat.le_trans (List.length_filterMap_le _ _) ?_; rw [List.length_take]; have := HLN.out; have := HN20.out; omega)
                          have HKL : Hid (Wk'.length ≤ 70000) := Hid.mk (by rw [HWE.out, List.length_append]; have h1 := HFL.out; rw [HFX.out] at h1; have h2 := HGM.out; have h3 := HGK.out; simp only [List.length_cons] at h3; omega)
                          clear hbn s0 s1 v1 y0 HI HBz
                          obtain ⟨s0, s1⟩ := HI3.out.cells
                          simp only at s0 s1
                          have v1 := cell_of_row _ _ 1 _ _ _ HV3.out
                          have y0 := cell_of_row _ _ 0 _ _ _ HY3.out
                          go_wp2_with (first
                            | (refine wpList_mapEntry_own _ rfl _ _ 54 rfl 56 57 sq_law sq_klaw Tryd.underlying54 RVp w8.heap.size _ D' rfl HE3.out.sp.map HSL.out (.slice none 0 0) zero_sps (.held (.slice none 0 0)) [] rfl _ (kyS (xb, (xn : Int))) rfl HKY.out ?_
                               intro v0 st w4 ps0 hg4 hv4 hst4
                               have e0 := HE3.out.sp.found HMEM.out hv4
                               subst e0
                               have HE4 : Hid (SpE (W3.alloc (.cells #[.int .i64 tb, .int .i64 i'] 56)) w4 (w8.heap.size + 1) w8.heap.size g' wr.heap.size w3.heap.size (S ++ [(xb, (xn : Int))]) D' V' G' F' vq Wk' (xb, (xn : Int)) lo fa re sz fa0 len cap) := Hid.mk ⟨HE3.out, hg4⟩
                               have HST := Hid.mk hst4
                               have HNW4 := Hid.mk (keep_other hg4 HNW.out (by have := HML.out; have := HZE.out; have := HVY.out; omega))
                               have HV4 := Hid.mk (keep_other hg4 HV4'.out (by have := HML.out; omega))
                               have HY4 := Hid.mk (keep_other hg4 HY4'.out (by have := HML.out; have := HVY.out; omega))
                               have HB5' := Hid.mk (below_mapQ HB4'.out hg4 (Nat.le_refl _))
                               have HG4 := Hid.mk hg4.size
                               clear hg4 hv4 hst4)
                            | (at_builtin
                               refine wpList_append_qp _ rfl (.tmp 134) (.tmp 140) rfl (w8.heap.size + 1) (G' (xb, (xn : Int))) (V' (xb, (xn : Int))) (F' (xb, (xn : Int))) [(tb, i')] ⟨W3.heap.size, 0, none⟩ 1 1 rfl rfl rfl (by decide) (HE4.out.row HMEM.out) (two_at HNW4.out) (by have := HFL.out; simp only [List.length_singleton]; omega) (by have := HML.out; have := HVY.out; have := HZE.out; have := HG4.out; simp only [size_alloc] at this; omega) ?_
                               intro v5 w5 g5 hq5 hgr5 hn5
                               obtain ⟨w6, hrun6, hown6, hg6⟩ := HST.out w5 v5 (.held v5) [] (hgr5.block _ (by have := HML.out; have := HVY.out; have := HZE.out; have := HG4.out; simp only [size_alloc] at this; omega) (fun e => by have := Option.some.inj e; have := HGB.out; omega)) rfl
                               have HI6 := Hid.mk (HE4.out.push HMEM.out hgr5 hn5 hq5 hg6 hown6)
                               have HV6 := Hid.mk (keep_other hg6 (keep_other hgr5 HV4.out (by have := HGL.out; omega)) (by have := HML.out; omega))
                               have HY6 := Hid.mk (keep_other hg6 (keep_other hgr5 HY4.out (by have := HGL.out; have := HVY.out; omega)) (by have := HML.out; have := HVY.out; omega))
                               have HB6 := Hid.mk (below_mapQ (Below.grown HB5'.out hgr5 HB5'.out.size (fun q hq => by cases hq; have := HGB.out; omega)) hg6 (Nat.le_refl _))
                               have HRUN := Hid.mk hrun6
                               clear hq5 hgr5 hn5 hrun6 hown6 hg6 s0 s1 v1 y0)
                            | (refine wpList_entryStore_own _ rfl _ _ _ 54 rfl w8.heap.size rfl _ _ rfl rfl w6 HRUN.out ?_
                               have v1 := cell_of_row _ _ 1 _ _ _ HV6.out
                               have y0 := cell_of_row _ _ 0 _ _ _ HY6.out
                               have hbm := awB w6 (.cells #[.int .i64 tb, .int .i64 i'] 56)
                               have HI7 := Hid.mk (HI6.out.below hbm)
                               have HB7 := Hid.mk (bl2 HB6.out hbm)
                               have HN7 := Hid.mk (heap_alloc_new w6 (.cells #[.int .i64 tb, .int .i64 i'] 56))
                               clear hbm)
                            | (at_builtin
                               refine wpList_append_qp _ rfl (.tmp 144) (.tmp 150) rfl (w8.heap.size + 1) g' vq Wk' [(tb, i')] ⟨w6.heap.size, 0, none⟩ 1 1 rfl rfl rfl (by decide) HI7.out.sp.qu (two_at HN7.out) (by have := HKL.out; simp only [List.length_singleton]; omega) (by have := HI6.out.sp.map.lt; simp only [size_alloc]; omega) ?_
                               intro v8 w9 g8 hq8 hgr8 hn8
                               have HI9 := Hid.mk (HI7.out.queue hgr8 hn8 hq8)
                               have HB9 := Hid.mk (Below.grown HB7.out hgr8 HB7.out.size (fun q hq => by cases hq; have := HI7.out.sp.qu.hg; omega))
                               clear hq8 hgr8 hn8))
                          go_roundw
                          case rel => exact ⟨k + 1, _, _, _, _, g8, Wk' ++ [(tb, i')], _, by omega, rfl, by go_num, HI9, Hid.mk (by rw [HN0.out, HWE.out, List.append_assoc]), Hid.mk (by rw [put1_same, HN0.out, HFX.out]), Hid.mk (fun p hp => by have hne : p ≠ (xb, (xn : Int)) := fun e => HIN.out (e ▸ hp); rw [put1_other _ _ hne]; exact HFO.out p hp), Hid.mk (fun p hp => by
                            rcases List.mem_append.1 hp with hp | hp
                            · exact HKK.out p hp
                            · rw [List.mem_singleton] at hp; subst hp; exact ⟨⟨HTB.out, by have := frEn_idW HFI.out; simp only; omega⟩, HFI.out⟩), HB9⟩
                          case measure => simp [intOf]; omega
                      · obtain rfl : k = n := by omega
                        have HTK : Hid (rs.take k = rs) := Hid.mk (List.take_of_length_le (by rw [HLN.out]; exact Nat.le_refl _))
                        have HLX : Hid ((nx (xb, (xn : Int))).length ≤ 20) := Hid.mk (by rw [HNX.out]; unfold nxt; refine Nat.le_trans (List.length_filterMap_le _ _) ?_; have := HLN.out; have := HN20.out; omega)
                        have HWE2 : Hid (Wk' = l ++ nx (xb, (xn : Int))) := Hid.mk (by rw [HWE.out, HTK.out, HNX.out])
                        have HBF2 := HBF1.out
                        rw [← HWE2.out] at HBF2
                        have HBF2 := Hid.mk HBF2
                        go_wp2_with fail
                        go_roundg (gk - 1)
                        case measure => have := HGK.out; simp only [List.length_cons] at this; omega
                        case rel => exact ⟨S ++ [(xb, (xn : Int))], Wk', D', V', G', F', g', by have := HGK.out; have := HLX.out; rw [HWE2.out]; have := HSN.out; rw [List.length_append, List.length_append, List.length_singleton]; have h9 := HGK.out; simp only [List.length_cons] at h9; omega, by have := HGM.out; omega, Hid.mk HI.out.sp, Hid.mk (fun p hp => by
                          rcases List.mem_append.1 hp with hp | hp
                          · exact HFO.out p hp
                          · rw [List.mem_singleton.1 hp, HFX.out, HTK.out, HNX.out]), HBF2, HKK, Hid.mk (Nat.le_trans (Nat.succ_le_of_lt HI.out.sp.map.lt) (Nat.le_refl _)), HBz⟩
              · obtain ⟨offE, cE, hvE, -⟩ := HSP.out.qu.head
                subst hvE
                have hlen := HLEN.out 3
                have hm := HBF.out.many HW.out (by omega)
                have hEQ : (E1 = 2 ∨ E1 = 13) ∧ n1 = 0 := by
                  cases bR with
                  | true => have := HA1.out rfl; omega
                  | false => have := HA2.out rfl hm; omega
                obtain ⟨hE, rfl⟩ := hEQ
                have hgt : (1000 : Int) < ((S.length : Nat) : Int) := by omega
                have HBE := Hid.mk (bl2 HB8.out HB.out)
                clear HSP HFN HBF HKW HSZ HB
                rcases hE with rfl | rfl
                · go_wp2_with fail
                  refine bodyPost_ret (results_tmp rfl _ _ _) rfl ?_
                  exact ⟨by first | rfl | simp, HBE.out⟩
                · go_wp2_with fail
                  refine bodyPost_ret (results_tmp rfl _ _ _) rfl ?_
                  exact ⟨by first | rfl | simp, HBE.out⟩
        · have hV0 : FE ≠ 0 := hF
          have hFb : (FE == 0) = false := by rw [beq_eq_false_iff_ne]; exact hF
          have hFn : (FE != 0) = true := by simpa using hF
          have hsp : spE rs bus id lo fa re sz len = FE := (by unfold spE; rw [HLN.out, ← HGE.out, ← HFE.out]; simp [hF])
          obtain ⟨hE1, hn1⟩ := HSP.out.bad (by rw [hsp]; exact hV0)
          rw [hsp] at hE1
          subst hE1
          subst hn1
          clear hsp hV0 HSP
          go_wp2_with fail
          refine (HDL.out _ HL6.out HS6.out).mono ?_
          rintro e w8 ⟨rfl, hb8⟩
          have HB8 := Hid.mk (bl2 HB6.out hb8)
          have HL8 := Hid.mk (HL6.out.kept hb8)
          have HS8 := Hid.mk (HS6.out.kept hb8)
          clear hb8
          go_wp2_with fail
          refine (HDL.out _ HL8.out HS8.out).mono ?_
          rintro e w9 ⟨rfl, hb9⟩
          have HB9 := Hid.mk (bl2 HB8.out hb9)
          clear hb9
          go_wp2_with fail
          refine bodyPost_ret (results_tmp rfl _ _ _) rfl ?_
          exact ⟨by first | rfl | simp, HB9.out⟩
      · have hV0 : G ≠ 0 := hG
        have hGb : (G == 0) = false := by rw [beq_eq_false_iff_ne]; exact hG
        have hGn : (G != 0) = true := by simpa using hG
        have hsp : spE rs bus id lo fa re sz len = G := (by unfold spE; rw [HLN.out, ← HGE.out]; simp [hG])
        obtain ⟨hE1, hn1⟩ := HSP.out.bad (by rw [hsp]; exact hV0)
        rw [hsp] at hE1
        subst hE1
        subst hn1
        clear hsp hV0 HSP
        go_wp2_with fail
        refine (HDL.out _ HL4.out HS4.out).mono ?_
        rintro e w8 ⟨rfl, hb8⟩
        have HB8 := Hid.mk (bl2 HB4.out hb8)
        have HL8 := Hid.mk (HL4.out.kept hb8)
        have HS8 := Hid.mk (HS4.out.kept hb8)
        clear hb8
        go_wp2_with fail
        refine (HDL.out _ HL8.out HS8.out).mono ?_
        rintro e w9 ⟨rfl, hb9⟩
        have HB9 := Hid.mk (bl2 HB8.out hb9)
        clear hb9
        go_wp2_with fail
        refine bodyPost_ret (results_tmp rfl _ _ _) rfl ?_
        exact ⟨by first | rfl | simp, HB9.out⟩
end Bw
end Go.Proofs.YtapjiopnjfldhaaDoor
