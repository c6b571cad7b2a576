/- The law RouteStep: its walk, over the closed fact as a premise. -/
import Derived.Test.YtapjiopnjfldhaaDoorA17
namespace Go.Proofs.YtapjiopnjfldhaaDoor
open Go.ChangeShapes Go.WideShapes Go.ChangeAt Go.RowKit
namespace Bw
open Bm Cm
set_option linter.unusedVariables false
theorem GaAt.row2 {w : World} {g : Nat} {a : Option Addr} {n c : Nat} {b : Option Addr} {m d : Nat} (h : GaAt w g a n c b m d) : Row2 w g (.slice a n c) (.slice b m d) := h
theorem chk_new {rs : List Rt} {ts : List Int} (h : chkG rs (neg1 rs.length) ≠ 0) : chkG rs ts ≠ 0 := by
  intro e
  apply h
  unfold chkG at e ⊢
  by_cases h1 : 20 < rs.length
  · rw [if_pos h1] at e; omega
  · rw [if_neg h1] at e ⊢
    by_cases h2 : ts.length ≠ rs.length
    · rw [if_pos h2] at e; omega
    · rw [if_neg h2] at e
      rw [if_neg (by simp [neg1])]
      have h3 : allR rs ts = true := by
        cases h4 : allR rs ts with
        | true => rfl
        | false => rw [h4] at e; simp at e
      rw [if_pos]
      refine allR_yes (fun j hj => ?_)
      have h5 := allR_at h3 hj
      have h6 : (neg1 rs.length).getD j 0 = -1 := by unfold neg1; simp [List.getD, hj]
      rw [h6]
      unfold okR at h5 ⊢
      rw [Bool.and_eq_true, Bool.and_eq_true] at h5 ⊢
      refine ⟨⟨?_, h5.1.2⟩, h5.2⟩
      have h7 := h5.1.1
      unfold fitR at h7 ⊢
      simp only [decide_eq_true_eq] at h7 ⊢
      omega
theorem st_gate {rs : List Rt} {ts : List Int} {time bus id : Int} {lo fa re : Bool} {sz : Int} {len : Nat} (h : chkG rs ts ≠ 0) : stE rs ts time bus id lo fa re sz len = chkG rs ts := by unfold stE; rw [if_pos h]
theorem st_frame {rs : List Rt} {ts : List Int} {time bus id : Int} {lo fa re : Bool} {sz : Int} {len : Nat} (h : chkG rs ts = 0) (h2 : frEn id lo fa re sz len ≠ 0) : stE rs ts time bus id lo fa re sz len = frEn id lo fa re sz len := by unfold stE; rw [if_neg (by rw [h]; simp), if_pos h2]
theorem st_range {rs : List Rt} {ts : List Int} {time bus id : Int} {lo fa re : Bool} {sz : Int} {len : Nat} (h : chkG rs ts = 0) (h2 : frEn id lo fa re sz len = 0) (h3 : timB time = false ∨ busB bus = false) : stE rs ts time bus id lo fa re sz len = 3 := by
  unfold stE
  rw [if_neg (by rw [h]; simp), if_neg (by rw [h2]; simp)]
  cases h4 : timB time
  · rfl
  · rw [if_neg (by simp), if_pos (by rcases h3 with h3 | h3; rw [h4] at h3; cases h3; exact h3)]
theorem st_late {rs : List Rt} {ts : List Int} {time bus id : Int} {lo fa re : Bool} {sz : Int} {len : Nat} (h : chkG rs ts = 0) (h2 : frEn id lo fa re sz len = 0) (h3 : timB time = true) (h4 : busB bus = true) : stE rs ts time bus id lo fa re sz len = if lateB ts time = true then 12 else 0 := by
  unfold stE
  rw [if_neg (by rw [h]; simp), if_neg (by rw [h2]; simp), if_neg (by rw [h3]; simp), if_neg (by rw [h4]; simp)]
set_option maxHeartbeats 16000000 in
set_option maxRecDepth 100000 in
theorem rstep_bad (hRT : RoutedIs) (a : Option Addr) (n c : Nat) (b : Option Addr) (m d : Nat) (rs : List Rt) (ts : List Int) (time bus id : Int) (lo fa re : Bool) (sz : Int) (fa0 : Option Addr) (len cap : Nat) (dt : List UInt8) (w : World) (hR : IsRts w a n c rs) (hT : IsNums w b m d ts) (hL : LastsAt w) (hS : SizesAt w) (hD : IsBytes w fa0 len cap dt) (hn : n ≤ 2513169434843) (hE9 : stE rs ts time bus id lo fa re sz len ≠ 0) :
    Calls Tryd.prog 3 #[gaV a n c b m d, .int .i64 time, .int .i64 bus, frameV id lo fa re sz fa0 len cap] w fun e w' => e = .returned (.bool true) ∧ Below w.heap.size w w' := by
  obtain ⟨i0, hi, hz0, hz1, hz2⟩ := info_parts info_intF
  obtain ⟨hG, hc1, hF, hb⟩ := rst3_at w a n c b m d time id lo fa re sz fa0 len cap
  have hlen : len ≤ maxLen := Nat.le_trans hD.2.1 hD.2.2.1
  have HST := Hid.mk (step_any a n c b m d rs ts time bus id lo fa re sz fa0 len cap dt _ (hR.kept hb) (hT.kept hb) (hL.kept hb) (hS.kept hb) (isBytes_below hD hb))
  have HNW := Hid.mk (fun (W : World) (h : Below w.heap.size w W) => new_all a n c rs W (hR.kept h) (hL.kept h) hn)
  have HLG := Hid.mk (fun (W : World) (h : Below w.heap.size w W) => lgate_any a n c b m d rs ts W (hR.kept h) (hT.kept h) (hL.kept h))
  have HLF := Hid.mk (fun (b9 : Option Addr) (d9 : Nat) (W : World) (h : Below w.heap.size w W) (h9 : IsNums W b9 n d9 (neg1 n)) => lgate_any a n c b9 n d9 rs (neg1 n) W (hR.kept h) h9 (hL.kept h))
  have HGC := Hid.mk (fun (W : World) (h : Below w.heap.size w W) => gcheck_any a n c b m d rs ts W (hR.kept h) (hT.kept h) (hL.kept h))
  have HRO := Hid.mk (fun (W : World) (h : Below w.heap.size w W) => hRT W (hL.kept h) (hS.kept h))
  have HCF := Hid.mk (fun (W : World) => checkFrame_any id lo fa re sz fa0 len cap W (by have := hlen; unfold maxLen at this; omega))
  have HRR := Hid.mk hR
  have HTT := Hid.mk hT
  have HDD := Hid.mk hD
  have HN := Hid.mk hn
  have HLEN := Hid.mk hlen
  have HB := Hid.mk hb
  have HG := Hid.mk hG
  have HC := Hid.mk hc1
  have HF := Hid.mk hF
  obtain ⟨k0, k1⟩ := hG.cells
  obtain ⟨q0, q1, q2, q3, q4, q5⟩ := hF.fr
  have c1 := hc1
  have hn63 : (n : Int) ≤ 2513169434843 := by omega
  have hm63 := mlen (Nat.le_trans hT.le hT.max)
  obtain ⟨E, hE⟩ : ∃ E, E = stE rs ts time bus id lo fa re sz len := ⟨_, rfl⟩
  obtain ⟨H, hH⟩ : ∃ H, H = chkG rs (neg1 n) := ⟨_, rfl⟩
  obtain ⟨G, hGG⟩ : ∃ G, G = chkG rs ts := ⟨_, rfl⟩
  obtain ⟨FE, hFE⟩ : ∃ FE, FE = frEn id lo fa re sz len := ⟨_, rfl⟩
  rw [← hE] at HST
  rw [← hH] at HNW HLF
  rw [← hGG] at HLG HGC
  rw [← hFE] at HCF
  have HEE := Hid.mk hE
  have HHE := Hid.mk hH
  have HGE := Hid.mk hGG
  have HFE := Hid.mk hFE
  unfold rst3 gaC frameC at HB HG HC HF HST k0 k1 q0 q1 q2 q3 q4 q5 c1
  unfold gaV frameV at HST
  unfold gaV at HNW HLG HLF HGC
  unfold frameV at HCF
  unfold gaV frameV
  clear hG hc1 hF hb hR hT hL hS hD hn hlen hE hH hGG hFE hRT
  go_enter Tryd.func3, Tryd.ntmps3
  go_wp2_with fail
  refine HST.out.mono ?_
  rintro e w1 ⟨⟨a1, n1, x1, b1, m1, d1, l1, ln, lc, rfl, hbad, hok⟩, hb1⟩
  have hba := awB w1 (gaC a1 n1 x1 b1 m1 d1)
  have hbb := bl2 hb1 hba
  have HB1 := Hid.mk (bl2 HB.out hbb)
  have HG1 := Hid.mk (HG.out.kept hbb)
  have HC1 := Hid.mk (cell_kept hbb HC.out)
  have HF1 := Hid.mk (HF.out.kept hbb)
  have HX1 := Hid.mk (GaAt.new w1 a1 n1 x1 b1 m1 d1)
  have HBD : Hid (E ≠ 0 → n1 = 0 ∧ m1 = 0 ∧ ln = 0 ∧ IsRts (w1.alloc (gaC a1 n1 x1 b1 m1 d1)) a1 0 x1 [] ∧ IsNums (w1.alloc (gaC a1 n1 x1 b1 m1 d1)) b1 0 d1 []) := Hid.mk (fun h => ⟨(hbad h).1, (hbad h).2.1, (hbad h).2.2.1, (hbad h).2.2.2.1.kept hba, (hbad h).2.2.2.2.kept hba⟩)
  have HOK : Hid (E = 0 → n1 = n ∧ m1 = n ∧ IsRts (w1.alloc (gaC a1 n1 x1 b1 m1 d1)) a1 n x1 rs ∧ IsNums (w1.alloc (gaC a1 n1 x1 b1 m1 d1)) b1 n d1 (newL rs ts time bus id.toNat lo fa re sz len n) ∧ ∃ P, IsLns (w1.alloc (gaC a1 n1 x1 b1 m1 d1)) l1 ln lc P dt ∧ P.map LnR.k = (sntL rs ts time bus id.toNat lo fa re sz len n).map (lnK time lo fa re sz len)) := Hid.mk (fun h => by
    obtain ⟨e1, e2, e3, e4, P, e5, e6⟩ := hok h
    exact ⟨e1, e2, e3.kept hba, e4.kept hba, P, e5.kept hba, e6⟩)
  unfold gaC at HB1 HG1 HC1 HF1 HX1 HBD HOK
  clear hba hbb hb1 hbad hok k0 k1 q0 q1 q2 q3 q4 q5 c1 HB HG HC HF HST
  obtain ⟨k0, k1⟩ := HG1.out.cells
  go_wp2_with fail
  generalize w1.alloc (.cells #[.slice a1 n1 x1, .slice b1 m1 d1] 25) = W1 at *
  generalize w1.heap.size = s1 at *
  refine (HNW.out _ HB1.out).mono ?_
  rintro e w2 ⟨⟨a2, n2, x2, b2, m2, d2, rfl, hbad, hok⟩, hb2⟩
  have hba := awB w2 (gaC a2 n2 x2 b2 m2 d2)
  have hbb := bl2 hb2 hba
  have HB2 := Hid.mk (bl2 HB1.out hbb)
  have HG2 := Hid.mk (HG1.out.kept hbb)
  have HC2 := Hid.mk (cell_kept hbb HC1.out)
  have HF2 := Hid.mk (HF1.out.kept hbb)
  have HX2 := Hid.mk (HX1.out.kept hbb)
  have HN2 := Hid.mk (GaAt.new w2 a2 n2 x2 b2 m2 d2)
  have HKX := Hid.mk hbb
  have HNB : Hid (H ≠ 0 → n2 = 0 ∧ m2 = 0 ∧ IsRts (w2.alloc (gaC a2 n2 x2 b2 m2 d2)) a2 0 x2 [] ∧ IsNums (w2.alloc (gaC a2 n2 x2 b2 m2 d2)) b2 0 d2 []) := Hid.mk (fun h => ⟨(hbad h).1, (hbad h).2.1, (hbad h).2.2.1.kept hba, (hbad h).2.2.2.kept hba⟩)
  have HNO : Hid (H = 0 → n2 = n ∧ m2 = n ∧ IsRts (w2.alloc (gaC a2 n2 x2 b2 m2 d2)) a2 n x2 rs ∧ IsNums (w2.alloc (gaC a2 n2 x2 b2 m2 d2)) b2 n d2 (neg1 n)) := Hid.mk (fun h => ⟨(hok h).1, (hok h).2.1, (hok h).2.2.1.kept hba, (hok h).2.2.2.kept hba⟩)
  unfold gaC at HB2 HG2 HC2 HF2 HX2 HN2 HNB HNO HKX
  clear hba hbb hb2 hbad hok k0 k1 HB1 HG1 HC1 HF1 HX1 HNW
  obtain ⟨k0, k1⟩ := HG2.out.cells
  go_wp2_with fail
  generalize w2.alloc (.cells #[.slice a2 n2 x2, .slice b2 m2 d2] 25) = W2 at *
  generalize w2.heap.size = s2 at *
  refine (HLG.out _ HB2.out).mono ?_
  rintro e w3 ⟨rfl, hb3⟩
  have HB3 := Hid.mk (bl2 HB2.out hb3)
  have HG3 := Hid.mk (HG2.out.kept hb3)
  have HC3 := Hid.mk (cell_kept hb3 HC2.out)
  have HF3 := Hid.mk (HF2.out.kept hb3)
  have HX3 := Hid.mk (HX2.out.kept hb3)
  have HN3 := Hid.mk (HN2.out.kept hb3)
  have HK3 := Hid.mk hb3
  clear k0 k1 HB2 HG2 HC2 HF2 HX2 HN2 HLG hb3
  obtain ⟨k0, k1⟩ := HG3.out.cells
  have hba := awB w3 (gaC a n c none 0 0)
  have HFR := Hid.mk (Row2.new w3 (.slice a n c) (.slice none 0 0))
  obtain ⟨j0, j1⟩ := (HG3.out.kept hba).cells
  have HBA := Hid.mk hba
  have HSS : Hid ((w3.alloc (gaC a n c none 0 0)).heap.size = w3.heap.size + 1) := Hid.mk (by simp)
  unfold gaC at j0 j1 HBA HSS
  clear hba
  go_wp2_with fail
  generalize w3.alloc (.cells #[.slice a n c, .slice none 0 0] 25) = W3 at *
  clear k0 k1 j0 j1
  go_loopw [45] (fun i wr => ∃ (k : Nat) (v : Value), k ≤ n ∧ i = .int .i64 k ∧ Hid (Row2 wr w3.heap.size (.slice a n c) v) ∧ Hid (wr.ownsRow (w3.heap.size + 1) 3 1 v k (numC (neg1 k))) ∧ Hid (w3.heap.size + 1 ≤ wr.heap.size) ∧ Hid (Below w3.heap.size w3 wr)) (fun i _ => n - (intOf i).toNat)
  case atStart => exact ⟨0, _, Nat.zero_le _, rfl, HFR, Hid.mk (World.ownsRow_nil _ _ _ _), Hid.mk (by rw [HSS.out]; exact Nat.le_refl _), HBA⟩
  case round =>
    clear HFR HBA HSS
    obtain ⟨k, v, hk, rfl, HFR, HO, HS2, HBW⟩ := hrel
    by_cases hlt : k < n
    · have hlt' : (k : Int) < (n : Int) := by omega
      obtain ⟨k0, k1⟩ := HFR.out.cells
      have hba := awB wr (.cells #[.int .i64 (-1)] 3)
      obtain ⟨j0, j1⟩ := (HFR.out.kept hba).cells
      clear hba
      go_wp2_with (
         at_builtin
         refine wpList_append_own _ rfl (.tmp 48) (.tmp 49) 23 rfl (w3.heap.size + 1) 3 i0 (.int .i64 0) 1 8 Tryd.underlying23 hi hz0 hz1 hz2 rfl (by decide) _ _ _ rfl (HO.out.alloc _) ⟨wr.heap.size, 0, none⟩ 1 1 [Value.int .i64 (-1)] rfl rfl (one_int wr _ _) (by intro u hu; simp at hu; subst hu; rfl) (by have := HN.out; unfold maxLen; omega) (by have := HN.out; omega) (by have := HS2.out; simp; omega) ?_
         intro v6 w6 hown6 hgrow6 _
         have hB6 : Below (w3.heap.size + 1) wr w6 := Below.grown ((Below.refl _ wr).alloc HS2.out _) hgrow6 (by have := HS2.out; simp; omega) (fun q hq => (HO.out.lt q hq).1)
         have HF6 := Hid.mk (HFR.out.keptB hB6 (by omega))
         have HB6 : Hid (Below w3.heap.size w3 w6) := Hid.mk (HBW.out.trans ⟨hB6.os, hB6.tape, hB6.output, hB6.size, fun q hq => hB6.block q (by omega)⟩)
         have HS6 : Hid (w3.heap.size + 1 ≤ w6.heap.size) := Hid.mk (Nat.le_trans HS2.out hB6.size)
         rw [neg1_add] at hown6
         obtain ⟨g6, c6, rfl, -, -⟩ := own_slice hown6 (Nat.succ_pos _)
         have HO6 := Hid.mk hown6
         have y1 := HF6.out.cells.2
         have f1 := HF6.out.frozen 1
         clear hown6 hgrow6 hB6)
      have HF7 := Hid.mk (HF6.out.set1 (.slice (some ⟨g6, 0, none⟩) (k + 1) c6))
      have HO7 := Hid.mk (owns_setB HO6.out (a := ⟨w3.heap.size, 1, none⟩) (show w3.heap.size < w3.heap.size + 1 by omega) (.slice (some ⟨g6, 0, none⟩) (k + 1) c6))
      have HB7 := Hid.mk (HB6.out.setCell (p := ⟨w3.heap.size, 1, none⟩) (Nat.le_refl _) (.slice (some ⟨g6, 0, none⟩) (k + 1) c6))
      go_wp2_with fail
      go_roundw
      case rel => exact ⟨k + 1, _, by omega, by go_num, HF7, HO7, by simpa using HS6, HB7⟩
      case measure => simp [intOf]; omega
    · obtain rfl : k = n := by omega
      obtain ⟨b9, d9, hv, hN⟩ := nums_own (l := neg1 k) (by rw [neg1_len]; exact HO.out)
      rw [neg1_len] at hv hN
      subst hv
      have HN9 := Hid.mk hN
      have HBr := Hid.mk (bl2 HB3.out HBW.out)
      have HGr := Hid.mk (HG3.out.kept HBW.out)
      have HCr := Hid.mk (cell_kept HBW.out HC3.out)
      have HFr := Hid.mk (HF3.out.kept HBW.out)
      have HXr := Hid.mk (HX3.out.kept HBW.out)
      have HNr := Hid.mk (HN3.out.kept HBW.out)
      clear hN HO HG3 HC3 HF3 HX3 HN3
      obtain ⟨k0, k1⟩ := HFR.out.cells
      go_wp2_with fail
      refine (HRO.out _ HBr.out).mono ?_
      rintro e w4 ⟨rfl, hb4⟩
      obtain ⟨g0, g1⟩ := (HGr.out.kept hb4).cells
      clear k0 k1 HRO
      go_wp2_with fail
      refine (HGC.out _ (bl2 HBr.out hb4)).mono ?_
      rintro e w5 ⟨rfl, hb5⟩
      have hb45 := bl2 hb4 hb5
      obtain ⟨k0, k1⟩ := (HFR.out.kept hb45).cells
      have HLF5 := Hid.mk (HLF.out b9 d9 w5 (bl2 HBr.out hb45) (HN9.out.kept hb45))
      clear g0 g1 HGC
      go_wp2_with fail
      refine HLF5.out.mono ?_
      rintro e w6 ⟨rfl, hb6⟩
      have hb46 := bl2 hb45 hb6
      have HB6 := Hid.mk (bl2 HBr.out hb46)
      have HG6 := Hid.mk (HGr.out.kept hb46)
      have HC6 := Hid.mk (cell_kept hb46 HCr.out)
      have HF6 := Hid.mk (HFr.out.kept hb46)
      have HX6 := Hid.mk (HXr.out.kept hb46)
      have HN6 := Hid.mk (HNr.out.kept hb46)
      have HFR6 := Hid.mk (HFR.out.kept hb46)
      have HN96 := Hid.mk (HN9.out.kept hb46)
      have HKW2 := Hid.mk (show Below W2.heap.size W2 w6 from bl2 (bl2 HK3.out HBW.out) hb46)
      have HKW1 := Hid.mk (show Below W1.heap.size W1 w6 from bl2 (bl2 HKX.out (bl2 HK3.out HBW.out)) hb46)
      clear hb4 hb5 hb45 hb6 hb46 k0 k1 HLF HLF5 HGr HCr HFr HXr HNr HFR HN9 HBr HBW HB3 HK3 HKX
      have HKW6 := HKW1
      clear HKW1
      by_cases hH0 : H = 0
      · subst hH0
        obtain ⟨e1, e2, hr2, hn2'⟩ := HNO.out rfl
        have e1 := e1.symm
        subst e1
        have e2 := e2.symm
        subst e2
        have HSG := Hid.mk (sameGate_true a2 k x2 b2 k d2 a c b9 d9 rs (neg1 k) w6 (hr2.kept HKW2.out) (hn2'.kept HKW2.out) (HRR.out.kept HB6.out) HN96.out)
        unfold gaV at HSG
        obtain ⟨y0, y1⟩ := HN6.out.cells
        obtain ⟨z0, z1⟩ := HFR6.out.cells
        clear hr2 hn2' HNB HNO HKW2
        go_wp2_with fail
        refine HSG.out.mono ?_
        rintro e w7 ⟨rfl, hb7⟩
        have HB7 := Hid.mk (bl2 HB6.out hb7)
        have HG7 := Hid.mk (HG6.out.kept hb7)
        have HC7 := Hid.mk (cell_kept hb7 HC6.out)
        have HF7 := Hid.mk (HF6.out.kept hb7)
        have HX7 := Hid.mk (HX6.out.kept hb7)
        have HKW7 := Hid.mk (bl2 HKW6.out hb7)
        clear hb7 HB6 HG6 HC6 HF6 HX6 HKW6
        clear y0 y1 z0 z1 HN6 HSG HFR6 HN96
        by_cases hG0 : G = 0
        · subst hG0
          obtain ⟨q0, q1, q2, q3, q4, q5⟩ := HF7.out.fr
          go_wp2_with fail
          refine (HCF.out _).mono ?_
          rintro e w8 ⟨rfl, hb8⟩
          have HB8 := Hid.mk (bl2 HB7.out hb8)
          have HG8 := Hid.mk (HG7.out.kept hb8)
          have HC8 := Hid.mk (cell_kept hb8 HC7.out)
          have HF8 := Hid.mk (HF7.out.kept hb8)
          have HX8 := Hid.mk (HX7.out.kept hb8)
          have HKW8 := Hid.mk (bl2 HKW7.out hb8)
          clear hb8 HB7 HG7 HC7 HF7 HX7 HKW7
          clear q0 q1 q2 q3 q4 q5 HCF
          by_cases hF0 : FE = 0
          · subst hF0
            have c1 := HC8.out
            by_cases t0 : time < 0
            · have hE3 : E = 3 := by rw [HEE.out]; exact st_range HGE.out.symm HFE.out.symm (.inl (by unfold timB; rw [decide_eq_false (fun h => by omega)]))
              subst hE3
              have hE0 : (3 : Int) ≠ 0 := by decide
              obtain ⟨rfl, rfl, rfl, hr0, hn0⟩ := HBD.out hE0
              have HSX := Hid.mk (sameGate_true a1 0 x1 b1 0 d1 none 0 none 0 [] [] w8 (hr0.kept HKW8.out) (hn0.kept HKW8.out) (rts_nil _ _ (Nat.zero_le _)) (nums_nil _ _ (Nat.zero_le _)))
              unfold gaV at HSX
              obtain ⟨y0, y1⟩ := HX8.out.cells
              clear hr0 hn0 hE0 HBD HOK
              go_wp2_with fail
              refine HSX.out.mono ?_
              rintro e w9 ⟨rfl, hb9⟩
              have HB9 := Hid.mk (bl2 HB8.out hb9)
              clear hb9
              go_wp2_with fail
              go_ret
              exact ⟨by first | rfl | simp, HB9.out⟩
            by_cases t1 : 1000000 < time
            · have hE3 : E = 3 := by rw [HEE.out]; exact st_range HGE.out.symm HFE.out.symm (.inl (by unfold timB; rw [decide_eq_false (fun h => by omega)]))
              subst hE3
              have hE0 : (3 : Int) ≠ 0 := by decide
              obtain ⟨rfl, rfl, rfl, hr0, hn0⟩ := HBD.out hE0
              have HSX := Hid.mk (sameGate_true a1 0 x1 b1 0 d1 none 0 none 0 [] [] w8 (hr0.kept HKW8.out) (hn0.kept HKW8.out) (rts_nil _ _ (Nat.zero_le _)) (nums_nil _ _ (Nat.zero_le _)))
              unfold gaV at HSX
              obtain ⟨y0, y1⟩ := HX8.out.cells
              clear hr0 hn0 hE0 HBD HOK
              go_wp2_with fail
              refine HSX.out.mono ?_
              rintro e w9 ⟨rfl, hb9⟩
              have HB9 := Hid.mk (bl2 HB8.out hb9)
              clear hb9
              go_wp2_with fail
              go_ret
              exact ⟨by first | rfl | simp, HB9.out⟩
            by_cases u0 : bus < 0
            · have hE3 : E = 3 := by rw [HEE.out]; exact st_range HGE.out.symm HFE.out.symm (.inr (by unfold busB; rw [decide_eq_false (fun h => by omega)]))
              subst hE3
              have hE0 : (3 : Int) ≠ 0 := by decide
              obtain ⟨rfl, rfl, rfl, hr0, hn0⟩ := HBD.out hE0
              have HSX := Hid.mk (sameGate_true a1 0 x1 b1 0 d1 none 0 none 0 [] [] w8 (hr0.kept HKW8.out) (hn0.kept HKW8.out) (rts_nil _ _ (Nat.zero_le _)) (nums_nil _ _ (Nat.zero_le _)))
              unfold gaV at HSX
              obtain ⟨y0, y1⟩ := HX8.out.cells
              clear hr0 hn0 hE0 HBD HOK
              go_wp2_with fail
              refine HSX.out.mono ?_
              rintro e w9 ⟨rfl, hb9⟩
              have HB9 := Hid.mk (bl2 HB8.out hb9)
              clear hb9
              go_wp2_with fail
              go_ret
              exact ⟨by first | rfl | simp, HB9.out⟩
            by_cases u1 : 3 < bus
            · have hE3 : E = 3 := by rw [HEE.out]; exact st_range HGE.out.symm HFE.out.symm (.inr (by unfold busB; rw [decide_eq_false (fun h => by omega)]))
              subst hE3
              have hE0 : (3 : Int) ≠ 0 := by decide
              obtain ⟨rfl, rfl, rfl, hr0, hn0⟩ := HBD.out hE0
              have HSX := Hid.mk (sameGate_true a1 0 x1 b1 0 d1 none 0 none 0 [] [] w8 (hr0.kept HKW8.out) (hn0.kept HKW8.out) (rts_nil _ _ (Nat.zero_le _)) (nums_nil _ _ (Nat.zero_le _)))
              unfold gaV at HSX
              obtain ⟨y0, y1⟩ := HX8.out.cells
              clear hr0 hn0 hE0 HBD HOK
              go_wp2_with fail
              refine HSX.out.mono ?_
              rintro e w9 ⟨rfl, hb9⟩
              have HB9 := Hid.mk (bl2 HB8.out hb9)
              clear hb9
              go_wp2_with fail
              go_ret
              exact ⟨by first | rfl | simp, HB9.out⟩
            have hEL : E = if lateB ts time = true then 12 else 0 := by rw [HEE.out]; exact st_late HGE.out.symm HFE.out.symm (by unfold timB; rw [decide_eq_true (⟨by omega, by omega⟩ : 0 ≤ time ∧ time ≤ 1000000)]) (by unfold busB; rw [decide_eq_true (⟨by omega, by omega⟩ : 0 ≤ bus ∧ bus < 4)])
            have HLC := Hid.mk (lateCf b m d ts time (w.heap.size + 1) w8 (HTT.out.kept HB8.out) HC8.out)
            obtain ⟨g0, g1⟩ := HG8.out.cells
            cases hlb : lateB ts time
            · exact absurd (by rw [← HEE.out, hEL, hlb]; rfl) hE9
            · rw [hlb] at hEL HLC
              rw [if_pos rfl] at hEL
              subst hEL
              have hE0 : (12 : Int) ≠ 0 := by decide
              clear hlb
              go_wp2_with fail
              refine HLC.out.mono ?_
              rintro e w8' ⟨rfl, hw8⟩
              rw [hw8]
              clear hw8 HLC g0 g1
              obtain ⟨rfl, rfl, rfl, hr0, hn0⟩ := HBD.out hE0
              have HSX := Hid.mk (sameGate_true a1 0 x1 b1 0 d1 none 0 none 0 [] [] w8 (hr0.kept HKW8.out) (hn0.kept HKW8.out) (rts_nil _ _ (Nat.zero_le _)) (nums_nil _ _ (Nat.zero_le _)))
              unfold gaV at HSX
              obtain ⟨y0, y1⟩ := HX8.out.cells
              clear hr0 hn0 hE0 HBD HOK
              go_wp2_with fail
              refine HSX.out.mono ?_
              rintro e w9 ⟨rfl, hb9⟩
              have HB9 := Hid.mk (bl2 HB8.out hb9)
              clear hb9
              go_wp2_with fail
              go_ret
              exact ⟨by first | rfl | simp, HB9.out⟩
          · have hEF : E = FE := by rw [HEE.out, HFE.out]; exact st_frame HGE.out.symm (by rw [← HFE.out]; exact hF0)
            subst hEF
            have hE0 := hF0
            have hne : (E != 0) = true := by simpa using hF0
            have hne2 : (E == 0) = false := by simpa using hF0
            clear hF0
            obtain ⟨rfl, rfl, rfl, hr0, hn0⟩ := HBD.out hE0
            have HSX := Hid.mk (sameGate_true a1 0 x1 b1 0 d1 none 0 none 0 [] [] w8 (hr0.kept HKW8.out) (hn0.kept HKW8.out) (rts_nil _ _ (Nat.zero_le _)) (nums_nil _ _ (Nat.zero_le _)))
            unfold gaV at HSX
            obtain ⟨y0, y1⟩ := HX8.out.cells
            clear hr0 hn0 hE0 HBD HOK
            go_wp2_with fail
            refine HSX.out.mono ?_
            rintro e w9 ⟨rfl, hb9⟩
            have HB9 := Hid.mk (bl2 HB8.out hb9)
            clear hb9
            go_wp2_with fail
            go_ret
            exact ⟨by first | rfl | simp, HB9.out⟩
        · have hEG : E = G := by rw [HEE.out, HGE.out]; exact st_gate (by rw [← HGE.out]; exact hG0)
          subst hEG
          have hE0 := hG0
          have hne : (E != 0) = true := by simpa using hG0
          have hne2 : (E == 0) = false := by simpa using hG0
          clear hG0
          obtain ⟨rfl, rfl, rfl, hr0, hn0⟩ := HBD.out hE0
          have HSX := Hid.mk (sameGate_true a1 0 x1 b1 0 d1 none 0 none 0 [] [] w7 (hr0.kept HKW7.out) (hn0.kept HKW7.out) (rts_nil _ _ (Nat.zero_le _)) (nums_nil _ _ (Nat.zero_le _)))
          unfold gaV at HSX
          obtain ⟨y0, y1⟩ := HX7.out.cells
          clear hr0 hn0 hE0 HBD HOK
          go_wp2_with fail
          refine HSX.out.mono ?_
          rintro e w9 ⟨rfl, hb9⟩
          have HB9 := Hid.mk (bl2 HB7.out hb9)
          clear hb9
          go_wp2_with fail
          go_ret
          exact ⟨by first | rfl | simp, HB9.out⟩
      · have hG0 : G ≠ 0 := by rw [HGE.out]; rw [HHE.out] at hH0; refine chk_new ?_; rw [HRR.out.len]; exact hH0
        have hEG : E = G := by rw [HEE.out, HGE.out]; exact st_gate (by rw [← HGE.out]; exact hG0)
        subst hEG
        have hE0 := hG0
        have hne : (E != 0) = true := by simpa using hG0
        have hne2 : (E == 0) = false := by simpa using hG0
        have hhe : (H != 0) = true := by simpa using hH0
        have hhe2 : (H == 0) = false := by simpa using hH0
        obtain ⟨rfl, rfl, hr2, hn2'⟩ := HNB.out hH0
        have HSG := Hid.mk (sameGate_true a2 0 x2 b2 0 d2 none 0 none 0 [] [] w6 (hr2.kept HKW2.out) (hn2'.kept HKW2.out) (rts_nil _ _ (Nat.zero_le _)) (nums_nil _ _ (Nat.zero_le _)))
        unfold gaV at HSG
        obtain ⟨y0, y1⟩ := HN6.out.cells
        clear hr2 hn2' hH0 hG0 HNB HNO HFR6 HN96 HKW2
        go_wp2_with fail
        refine HSG.out.mono ?_
        rintro e w7 ⟨rfl, hb7⟩
        have HB7 := Hid.mk (bl2 HB6.out hb7)
        have HG7 := Hid.mk (HG6.out.kept hb7)
        have HC7 := Hid.mk (cell_kept hb7 HC6.out)
        have HF7 := Hid.mk (HF6.out.kept hb7)
        have HX7 := Hid.mk (HX6.out.kept hb7)
        have HKW7 := Hid.mk (bl2 HKW6.out hb7)
        clear hb7 HB6 HG6 HC6 HF6 HX6 HKW6
        clear y0 y1 HN6 HSG
        obtain ⟨rfl, rfl, rfl, hr0, hn0⟩ := HBD.out hE0
        have HSX := Hid.mk (sameGate_true a1 0 x1 b1 0 d1 none 0 none 0 [] [] w7 (hr0.kept HKW7.out) (hn0.kept HKW7.out) (rts_nil _ _ (Nat.zero_le _)) (nums_nil _ _ (Nat.zero_le _)))
        unfold gaV at HSX
        obtain ⟨y0, y1⟩ := HX7.out.cells
        clear hr0 hn0 hE0 HBD HOK
        go_wp2_with fail
        refine HSX.out.mono ?_
        rintro e w9 ⟨rfl, hb9⟩
        have HB9 := Hid.mk (bl2 HB7.out hb9)
        clear hb9
        go_wp2_with fail
        go_ret
        exact ⟨by first | rfl | simp, HB9.out⟩
end Bw
end Go.Proofs.YtapjiopnjfldhaaDoor
