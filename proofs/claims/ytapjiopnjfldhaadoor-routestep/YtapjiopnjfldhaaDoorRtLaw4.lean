/- The law RouteStep: the right way, over the closed fact as a premise. -/
import Derived.Test.YtapjiopnjfldhaaDoorRtLaw3
namespace Go.Proofs.YtapjiopnjfldhaaDoor
open Go.ChangeShapes Go.WideShapes Go.ChangeAt Go.RowKit
namespace Bw
open Bm Cm
set_option linter.unusedVariables false
theorem rts_low {w w' : World} {a : Option Addr} {n c : Nat} {l : List Rt} (h : IsRts w a n c l) (hl : ∀ p u, w.cell? p = some u → w'.cell? p = some u) : IsRts w' a n c l :=
  ⟨h.len, h.le, h.max, h.none, fun x hx i hi => by have q := h.cell x hx i hi; exact ⟨hl _ _ q.c0, hl _ _ q.c1, hl _ _ q.c2, hl _ _ q.c3, hl _ _ q.c4, hl _ _ q.c5, hl _ _ q.c6⟩⟩
theorem nums_low {w w' : World} {a : Option Addr} {n c : Nat} {l : List Int} (h : IsNums w a n c l) (hl : ∀ p u, w.cell? p = some u → w'.cell? p = some u) : IsNums w' a n c l :=
  ⟨h.len, h.le, h.max, h.none, fun x hx i hi => hl _ _ (h.cell x hx i hi)⟩
theorem lns_low {w w' : World} {a : Option Addr} {n c : Nat} {l : List LnR} {dt : List UInt8} (h : IsLns w a n c l dt) (hl : ∀ p u, w.cell? p = some u → w'.cell? p = some u) : IsLns w' a n c l dt :=
  ⟨h.len, h.le, h.max, h.none, (fun x hx i hi => by have q := h.cell x hx i hi; exact ⟨hl _ _ q.c0, hl _ _ q.c1, hl _ _ q.c2, hl _ _ q.c3, hl _ _ q.c4, hl _ _ q.c5, hl _ _ q.c6, hl _ _ q.c7⟩), fun i hi => by have q := h.bytes i hi; exact ⟨q.1, q.2.1, q.2.2.1, q.2.2.2.1, fun x hx k hk => hl _ _ (q.2.2.2.2 x hx k hk)⟩⟩
theorem cell_neR {w : World} {g : Nat} {i : Nat} {v : Value} {a : Addr} (h : a.block ≠ g) : (w.setCell ⟨g, i, none⟩ v).cell? a = w.cell? a := by
  unfold World.cell?
  rw [heap_setCell_other w ⟨g, i, none⟩ a.block v h]
theorem st_zero {rs : List Rt} {ts : List Int} {time bus id : Int} {lo fa re : Bool} {sz : Int} {len : Nat} (h : stE rs ts time bus id lo fa re sz len = 0) : chkG rs ts = 0 ∧ frEn id lo fa re sz len = 0 ∧ timB time = true ∧ busB bus = true ∧ lateB ts time = false := by
  unfold stE at h
  by_cases h1 : chkG rs ts ≠ 0
  · rw [if_pos h1] at h; exact absurd h h1
  rw [if_neg h1] at h
  by_cases h2 : frEn id lo fa re sz len ≠ 0
  · rw [if_pos h2] at h; exact absurd h h2
  rw [if_neg h2] at h
  cases h3 : timB time
  · rw [if_pos h3] at h; omega
  rw [if_neg (by rw [h3]; simp)] at h
  cases h4 : busB bus
  · rw [if_pos h4] at h; omega
  rw [if_neg (by rw [h4]; simp)] at h
  cases h5 : lateB ts time
  · exact ⟨Classical.not_not.1 h1, Classical.not_not.1 h2, rfl, rfl, rfl⟩
  · rw [if_pos h5] at h; omega
set_option maxHeartbeats 16000000 in
set_option maxRecDepth 100000 in
theorem rstep_ok (hRT : RoutedIs) (a : Option Addr) (n c : Nat) (b : Option Addr) (m d : Nat) (rs : List Rt) (ts : List Int) (time bus id : Int) (lo fa re : Bool) (sz : Int) (fa0 : Option Addr) (len cap : Nat) (dt : List UInt8) (w : World) (hR : IsRts w a n c rs) (hT : IsNums w b m d ts) (hL : LastsAt w) (hS : SizesAt w) (hD : IsBytes w fa0 len cap dt) (hn : n ≤ 2513169434843) (hE9 : stE rs ts time bus id lo fa re sz len = 0) :
    Calls Tryd.prog 3 #[gaV a n c b m d, .int .i64 time, .int .i64 bus, frameV id lo fa re sz fa0 len cap] w fun e w' => e = .returned (.bool true) ∧ Below w.heap.size w w' := by
  obtain ⟨i0, hi, hz0, hz1, hz2⟩ := info_parts info_intF
  obtain ⟨hG, hc1, hF, hb⟩ := rst3_at w a n c b m d time id lo fa re sz fa0 len cap
  have hlen : len ≤ maxLen := Nat.le_trans hD.2.1 hD.2.2.1
  have HST := Hid.mk (step_any a n c b m d rs ts time bus id lo fa re sz fa0 len cap dt _ (hR.kept hb) (hT.kept hb) (hL.kept hb) (hS.kept hb) (isBytes_below hD hb))
  have HNW := Hid.mk (fun (W : World) (h : Below w.heap.size w W) => new_all a n c rs W (hR.kept h) (hL.kept h) hn)
  have HLG := Hid.mk (fun (W : World) (h : Below w.heap.size w W) => lgate_any a n c b m d rs ts W (hR.kept h) (hT.kept h) (hL.kept h))
  have HLF := Hid.mk (fun (b9 : Option Addr) (d9 : Nat) (W : World) (h : Below w.heap.size w W) (h9 : IsNums W b9 n d9 (neg1 n)) => lgate_any a n c b9 n d9 rs (neg1 n) W (hR.kept h) h9 (hL.kept h))
  have HGC := Hid.mk (fun (W : World) (h : Below w.heap.size w W) => gcheck_any a n c b m d rs ts W (hR.kept h) (hT.kept h) (hL.kept h))
  have HRO := Hid.mk (fun (W : World) (h : Below w.heap.size w W) => hRT W (hL.kept h) (hS.kept h))
  have HCF := Hid.mk (fun (W : World) => checkFrame_any id lo fa re sz fa0 len cap W (by have := hlen; unfold maxLen at this; omega))
  have HRR := Hid.mk hR
  have HTT := Hid.mk hT
  have HDD := Hid.mk hD
  have HN := Hid.mk hn
  have HLEN := Hid.mk hlen
  have HB := Hid.mk hb
  have HG := Hid.mk hG
  have HC := Hid.mk hc1
  have HF := Hid.mk hF
  obtain ⟨k0, k1⟩ := hG.cells
  obtain ⟨q0, q1, q2, q3, q4, q5⟩ := hF.fr
  have c1 := hc1
  have hn63 : (n : Int) ≤ 2513169434843 := by omega
  have hm63 := mlen (Nat.le_trans hT.le hT.max)
  obtain ⟨E, hE⟩ : ∃ E, E = stE rs ts time bus id lo fa re sz len := ⟨_, rfl⟩
  obtain ⟨H, hH⟩ : ∃ H, H = chkG rs (neg1 n) := ⟨_, rfl⟩
  obtain ⟨G, hGG⟩ : ∃ G, G = chkG rs ts := ⟨_, rfl⟩
  obtain ⟨FE, hFE⟩ : ∃ FE, FE = frEn id lo fa re sz len := ⟨_, rfl⟩
  rw [← hE] at HST
  rw [← hH] at HNW HLF
  rw [← hGG] at HLG HGC
  rw [← hFE] at HCF
  have HEE := Hid.mk hE
  have HHE := Hid.mk hH
  have HGE := Hid.mk hGG
  have HFE := Hid.mk hFE
  unfold rst3 gaC frameC at HB HG HC HF HST k0 k1 q0 q1 q2 q3 q4 q5 c1
  unfold gaV frameV at HST
  unfold gaV at HNW HLG HLF HGC
  unfold frameV at HCF
  unfold gaV frameV
  clear hG hc1 hF hb hR hT hL hS hD hn hlen hE hH hGG hFE hRT
  go_enter Tryd.func3, Tryd.ntmps3
  go_wp2_with fail
  refine HST.out.mono ?_
  rintro e w1 ⟨⟨a1, n1, x1, b1, m1, d1, l1, ln, lc, rfl, hbad, hok⟩, hb1⟩
  have hba := awB w1 (gaC a1 n1 x1 b1 m1 d1)
  have hbb := bl2 hb1 hba
  have HB1 := Hid.mk (bl2 HB.out hbb)
  have HG1 := Hid.mk (HG.out.kept hbb)
  have HC1 := Hid.mk (cell_kept hbb HC.out)
  have HF1 := Hid.mk (HF.out.kept hbb)
  have HX1 := Hid.mk (GaAt.new w1 a1 n1 x1 b1 m1 d1)
  have HBD : Hid (E ≠ 0 → n1 = 0 ∧ m1 = 0 ∧ ln = 0 ∧ IsRts (w1.alloc (gaC a1 n1 x1 b1 m1 d1)) a1 0 x1 [] ∧ IsNums (w1.alloc (gaC a1 n1 x1 b1 m1 d1)) b1 0 d1 []) := Hid.mk (fun h => ⟨(hbad h).1, (hbad h).2.1, (hbad h).2.2.1, (hbad h).2.2.2.1.kept hba, (hbad h).2.2.2.2.kept hba⟩)
  have HOK : Hid (E = 0 → n1 = n ∧ m1 = n ∧ IsRts (w1.alloc (gaC a1 n1 x1 b1 m1 d1)) a1 n x1 rs ∧ IsNums (w1.alloc (gaC a1 n1 x1 b1 m1 d1)) b1 n d1 (newL rs ts time bus id.toNat lo fa re sz len n) ∧ ∃ P, IsLns (w1.alloc (gaC a1 n1 x1 b1 m1 d1)) l1 ln lc P dt ∧ P.map LnR.k = (sntL rs ts time bus id.toNat lo fa re sz len n).map (lnK time lo fa re sz len)) := Hid.mk (fun h => by
    obtain ⟨e1, e2, e3, e4, P, e5, e6⟩ := hok h
    exact ⟨e1, e2, e3.kept hba, e4.kept hba, P, e5.kept hba, e6⟩)
  unfold gaC at HB1 HG1 HC1 HF1 HX1 HBD HOK
  clear hba hbb hb1 hbad hok k0 k1 q0 q1 q2 q3 q4 q5 c1 HB HG HC HF HST
  obtain ⟨k0, k1⟩ := HG1.out.cells
  go_wp2_with fail
  generalize w1.alloc (.cells #[.slice a1 n1 x1, .slice b1 m1 d1] 25) = W1 at *
  generalize w1.heap.size = s1 at *
  refine (HNW.out _ HB1.out).mono ?_
  rintro e w2 ⟨⟨a2, n2, x2, b2, m2, d2, rfl, hbad, hok⟩, hb2⟩
  have hba := awB w2 (gaC a2 n2 x2 b2 m2 d2)
  have hbb := bl2 hb2 hba
  have HB2 := Hid.mk (bl2 HB1.out hbb)
  have HG2 := Hid.mk (HG1.out.kept hbb)
  have HC2 := Hid.mk (cell_kept hbb HC1.out)
  have HF2 := Hid.mk (HF1.out.kept hbb)
  have HX2 := Hid.mk (HX1.out.kept hbb)
  have HN2 := Hid.mk (GaAt.new w2 a2 n2 x2 b2 m2 d2)
  have HKX := Hid.mk hbb
  have HNB : Hid (H ≠ 0 → n2 = 0 ∧ m2 = 0 ∧ IsRts (w2.alloc (gaC a2 n2 x2 b2 m2 d2)) a2 0 x2 [] ∧ IsNums (w2.alloc (gaC a2 n2 x2 b2 m2 d2)) b2 0 d2 []) := Hid.mk (fun h => ⟨(hbad h).1, (hbad h).2.1, (hbad h).2.2.1.kept hba, (hbad h).2.2.2.kept hba⟩)
  have HNO : Hid (H = 0 → n2 = n ∧ m2 = n ∧ IsRts (w2.alloc (gaC a2 n2 x2 b2 m2 d2)) a2 n x2 rs ∧ IsNums (w2.alloc (gaC a2 n2 x2 b2 m2 d2)) b2 n d2 (neg1 n)) := Hid.mk (fun h => ⟨(hok h).1, (hok h).2.1, (hok h).2.2.1.kept hba, (hok h).2.2.2.kept hba⟩)
  unfold gaC at HB2 HG2 HC2 HF2 HX2 HN2 HNB HNO HKX
  clear hba hbb hb2 hbad hok k0 k1 HB1 HG1 HC1 HF1 HX1 HNW
  obtain ⟨k0, k1⟩ := HG2.out.cells
  go_wp2_with fail
  generalize w2.alloc (.cells #[.slice a2 n2 x2, .slice b2 m2 d2] 25) = W2 at *
  generalize w2.heap.size = s2 at *
  refine (HLG.out _ HB2.out).mono ?_
  rintro e w3 ⟨rfl, hb3⟩
  have HB3 := Hid.mk (bl2 HB2.out hb3)
  have HG3 := Hid.mk (HG2.out.kept hb3)
  have HC3 := Hid.mk (cell_kept hb3 HC2.out)
  have HF3 := Hid.mk (HF2.out.kept hb3)
  have HX3 := Hid.mk (HX2.out.kept hb3)
  have HN3 := Hid.mk (HN2.out.kept hb3)
  have HK3 := Hid.mk hb3
  clear k0 k1 HB2 HG2 HC2 HF2 HX2 HN2 HLG hb3
  obtain ⟨k0, k1⟩ := HG3.out.cells
  have hba := awB w3 (gaC a n c none 0 0)
  have HFR := Hid.mk (Row2.new w3 (.slice a n c) (.slice none 0 0))
  obtain ⟨j0, j1⟩ := (HG3.out.kept hba).cells
  have HBA := Hid.mk hba
  have HSS : Hid ((w3.alloc (gaC a n c none 0 0)).heap.size = w3.heap.size + 1) := Hid.mk (by simp)
  unfold gaC at j0 j1 HBA HSS
  clear hba
  go_wp2_with fail
  generalize w3.alloc (.cells #[.slice a n c, .slice none 0 0] 25) = W3 at *
  clear k0 k1 j0 j1
  go_loopw [45] (fun i wr => ∃ (k : Nat) (v : Value), k ≤ n ∧ i = .int .i64 k ∧ Hid (Row2 wr w3.heap.size (.slice a n c) v) ∧ Hid (wr.ownsRow (w3.heap.size + 1) 3 1 v k (numC (neg1 k))) ∧ Hid (w3.heap.size + 1 ≤ wr.heap.size) ∧ Hid (Below w3.heap.size w3 wr)) (fun i _ => n - (intOf i).toNat)
  case atStart => exact ⟨0, _, Nat.zero_le _, rfl, HFR, Hid.mk (World.ownsRow_nil _ _ _ _), Hid.mk (by rw [HSS.out]; exact Nat.le_refl _), HBA⟩
  case round =>
    clear HFR HBA HSS
    obtain ⟨k, v, hk, rfl, HFR, HO, HS2, HBW⟩ := hrel
    by_cases hlt : k < n
    · have hlt' : (k : Int) < (n : Int) := by omega
      obtain ⟨k0, k1⟩ := HFR.out.cells
      have hba := awB wr (.cells #[.int .i64 (-1)] 3)
      obtain ⟨j0, j1⟩ := (HFR.out.kept hba).cells
      clear hba
      go_wp2_with (
         at_builtin
         refine wpList_append_own _ rfl (.tmp 48) (.tmp 49) 23 rfl (w3.heap.size + 1) 3 i0 (.int .i64 0) 1 8 Tryd.underlying23 hi hz0 hz1 hz2 rfl (by decide) _ _ _ rfl (HO.out.alloc _) ⟨wr.heap.size, 0, none⟩ 1 1 [Value.int .i64 (-1)] rfl rfl (one_int wr _ _) (by intro u hu; simp at hu; subst hu; rfl) (by have := HN.out; unfold maxLen; omega) (by have := HN.out; omega) (by have := HS2.out; simp; omega) ?_
         intro v6 w6 hown6 hgrow6 _
         have hB6 : Below (w3.heap.size + 1) wr w6 := Below.grown ((Below.refl _ wr).alloc HS2.out _) hgrow6 (by have := HS2.out; simp; omega) (fun q hq => (HO.out.lt q hq).1)
         have HF6 := Hid.mk (HFR.out.keptB hB6 (by omega))
         have HB6 : Hid (Below w3.heap.size w3 w6) := Hid.mk (HBW.out.trans ⟨hB6.os, hB6.tape, hB6.output, hB6.size, fun q hq => hB6.block q (by omega)⟩)
         have HS6 : Hid (w3.heap.size + 1 ≤ w6.heap.size) := Hid.mk (Nat.le_trans HS2.out hB6.size)
         rw [neg1_add] at hown6
         obtain ⟨g6, c6, rfl, -, -⟩ := own_slice hown6 (Nat.succ_pos _)
         have HO6 := Hid.mk hown6
         have y1 := HF6.out.cells.2
         have f1 := HF6.out.frozen 1
         clear hown6 hgrow6 hB6)
      have HF7 := Hid.mk (HF6.out.set1 (.slice (some ⟨g6, 0, none⟩) (k + 1) c6))
      have HO7 := Hid.mk (owns_setB HO6.out (a := ⟨w3.heap.size, 1, none⟩) (show w3.heap.size < w3.heap.size + 1 by omega) (.slice (some ⟨g6, 0, none⟩) (k + 1) c6))
      have HB7 := Hid.mk (HB6.out.setCell (p := ⟨w3.heap.size, 1, none⟩) (Nat.le_refl _) (.slice (some ⟨g6, 0, none⟩) (k + 1) c6))
      go_wp2_with fail
      go_roundw
      case rel => exact ⟨k + 1, _, by omega, by go_num, HF7, HO7, by simpa using HS6, HB7⟩
      case measure => simp [intOf]; omega
    · obtain rfl : k = n := by omega
      obtain ⟨b9, d9, hv, hN⟩ := nums_own (l := neg1 k) (by rw [neg1_len]; exact HO.out)
      rw [neg1_len] at hv hN
      subst hv
      have HN9 := Hid.mk hN
      have HBr := Hid.mk (bl2 HB3.out HBW.out)
      have HGr := Hid.mk (HG3.out.kept HBW.out)
      have HCr := Hid.mk (cell_kept HBW.out HC3.out)
      have HFr := Hid.mk (HF3.out.kept HBW.out)
      have HXr := Hid.mk (HX3.out.kept HBW.out)
      have HNr := Hid.mk (HN3.out.kept HBW.out)
      clear hN HO HG3 HC3 HF3 HX3 HN3
      obtain ⟨k0, k1⟩ := HFR.out.cells
      go_wp2_with fail
      refine (HRO.out _ HBr.out).mono ?_
      rintro e w4 ⟨rfl, hb4⟩
      obtain ⟨g0, g1⟩ := (HGr.out.kept hb4).cells
      clear k0 k1 HRO
      go_wp2_with fail
      refine (HGC.out _ (bl2 HBr.out hb4)).mono ?_
      rintro e w5 ⟨rfl, hb5⟩
      have hb45 := bl2 hb4 hb5
      obtain ⟨k0, k1⟩ := (HFR.out.kept hb45).cells
      have HLF5 := Hid.mk (HLF.out b9 d9 w5 (bl2 HBr.out hb45) (HN9.out.kept hb45))
      clear g0 g1 HGC
      go_wp2_with fail
      refine HLF5.out.mono ?_
      rintro e w6 ⟨rfl, hb6⟩
      have hb46 := bl2 hb45 hb6
      have HB6 := Hid.mk (bl2 HBr.out hb46)
      have HG6 := Hid.mk (HGr.out.kept hb46)
      have HC6 := Hid.mk (cell_kept hb46 HCr.out)
      have HF6 := Hid.mk (HFr.out.kept hb46)
      have HX6 := Hid.mk (HXr.out.kept hb46)
      have HN6 := Hid.mk (HNr.out.kept hb46)
      have HFR6 := Hid.mk (HFR.out.kept hb46)
      have HN96 := Hid.mk (HN9.out.kept hb46)
      have HKW2 := Hid.mk (show Below W2.heap.size W2 w6 from bl2 (bl2 HK3.out HBW.out) hb46)
      have HKW1 := Hid.mk (show Below W1.heap.size W1 w6 from bl2 (bl2 HKX.out (bl2 HK3.out HBW.out)) hb46)
      clear hb4 hb5 hb45 hb6 hb46 k0 k1 HLF HLF5 HGr HCr HFr HXr HNr HFR HN9 HBr HBW HB3 HK3 HKX
      have HKW6 := HKW1
      clear HKW1
      obtain ⟨hG0, hF0, hT0, hU0, hL0⟩ := st_zero hE9
      have hG0 : G = 0 := by rw [HGE.out]; exact hG0
      have hF0 : FE = 0 := by rw [HFE.out]; exact hF0
      have hE0 : E = 0 := by rw [HEE.out]; exact hE9
      have hH0 : H = 0 := by
        by_cases h : H = 0
        · exact h
        · rw [HHE.out] at h
          exact absurd (HGE.out.symm.trans hG0) (chk_new (by rw [HRR.out.len]; exact h))
      have ht : 0 ≤ time ∧ time ≤ 1000000 := by unfold timB at hT0; simpa using hT0
      have hu : 0 ≤ bus ∧ bus < 4 := by unfold busB at hU0; simpa using hU0
      have t0 : ¬ time < 0 := by omega
      have t1 : ¬ 1000000 < time := by omega
      have u0 : ¬ bus < 0 := by omega
      have u1 : ¬ 3 < bus := by omega
      subst hG0 hF0 hE0 hH0
      clear hT0 hU0 ht hu HBD HNB
      obtain ⟨e1, e2, hr2, hn2'⟩ := HNO.out rfl
      have e1 := e1.symm
      subst e1
      have e2 := e2.symm
      subst e2
      have HSG := Hid.mk (sameGate_true a2 k x2 b2 k d2 a c b9 d9 rs (neg1 k) w6 (hr2.kept HKW2.out) (hn2'.kept HKW2.out) (HRR.out.kept HB6.out) HN96.out)
      unfold gaV at HSG
      obtain ⟨y0, y1⟩ := HN6.out.cells
      obtain ⟨z0, z1⟩ := HFR6.out.cells
      clear hr2 hn2' HNO HKW2
      go_wp2_with fail
      refine HSG.out.mono ?_
      rintro e w7 ⟨rfl, hb7⟩
      have HB7 := Hid.mk (bl2 HB6.out hb7)
      have HG7 := Hid.mk (HG6.out.kept hb7)
      have HC7 := Hid.mk (cell_kept hb7 HC6.out)
      have HF7 := Hid.mk (HF6.out.kept hb7)
      have HX7 := Hid.mk (HX6.out.kept hb7)
      have HKW7 := Hid.mk (bl2 HKW6.out hb7)
      clear hb7 HB6 HG6 HC6 HF6 HX6 HKW6
      clear y0 y1 z0 z1 HN6 HSG HFR6 HN96
      obtain ⟨q0, q1, q2, q3, q4, q5⟩ := HF7.out.fr
      go_wp2_with fail
      refine (HCF.out _).mono ?_
      rintro e w8 ⟨rfl, hb8⟩
      have HB8 := Hid.mk (bl2 HB7.out hb8)
      have HG8 := Hid.mk (HG7.out.kept hb8)
      have HC8 := Hid.mk (cell_kept hb8 HC7.out)
      have HF8 := Hid.mk (HF7.out.kept hb8)
      have HX8 := Hid.mk (HX7.out.kept hb8)
      have HKW8 := Hid.mk (bl2 HKW7.out hb8)
      clear hb8 HB7 HG7 HC7 HF7 HX7 HKW7
      clear q0 q1 q2 q3 q4 q5 HCF
      have c1 := HC8.out
      have hlc := lateCf b m d ts time (w.heap.size + 1) w8 (HTT.out.kept HB8.out) HC8.out
      rw [hL0] at hlc
      have HLC := Hid.mk hlc
      obtain ⟨g0, g1⟩ := HG8.out.cells
      clear hlc hL0 hE9
      go_wp2_with fail
      refine HLC.out.mono ?_
      rintro e w8' ⟨rfl, hw8⟩
      rw [hw8]
      clear hw8 HLC
      obtain ⟨e1, e2, hr1, hl1, P, hP, hPK⟩ := HOK.out (by first | rfl | trivial)
      have e1 := e1.symm
      subst e1
      have e2 := e2.symm
      subst e2
      have HR1 := Hid.mk (hr1.kept HKW8.out)
      have HL1 := Hid.mk (hl1.kept HKW8.out)
      have HP := Hid.mk (hP.kept HKW8.out)
      have HPK := Hid.mk hPK
      clear hr1 hl1 hP hPK HOK HKW8
      obtain ⟨hn20, hmn, hall⟩ : k ≤ 20 ∧ m = k ∧ allR rs ts = true := by
        have h1 := HRR.out.len
        have h2 := HTT.out.len
        have h0 := HGE.out
        unfold chkG at h0
        rw [h1, h2] at h0
        by_cases h3 : 20 < k
        · rw [if_pos h3] at h0; omega
        · rw [if_neg h3] at h0
          by_cases h4 : m ≠ k
          · rw [if_pos h4] at h0; omega
          · rw [if_neg h4] at h0
            cases h5 : allR rs ts with
            | true => exact ⟨by omega, by omega, rfl⟩
            | false => rw [h5] at h0; simp at h0
      have hmn := hmn.symm
      subst hmn
      have HN20 := Hid.mk hn20
      have HALL := Hid.mk hall
      obtain ⟨hid0, hid1⟩ := frEn_idR HFE.out.symm
      have HID := Hid.mk hid0
      have HID1 := Hid.mk hid1
      have HCI := Hid.mk (fun (W : World) (h : Below w.heap.size w W) => cloneI_any b k d ts W (HTT.out.kept h) (by have := HN20.out; omega))
      obtain ⟨idn, hidn⟩ : ∃ idn : Nat, id = (idn : Int) := ⟨id.toNat, by omega⟩
      subst hidn
      rw [Int.toNat_natCast] at HL1 HPK
      clear hn20 hall hid0 hid1 c1 g0 g1
      go_upto_region 19 with fail
      go_cut [16] (fun p16 wx => ∃ gw b5 d5, p16 = .pointer (some ⟨gw, 0, none⟩) ∧ Hid (Row2 wx gw (.slice a k c) (.slice b5 k d5)) ∧ Hid (LstAt wx b5 k ts ∧ k ≤ d5 ∧ d5 ≤ maxLen) ∧ Hid (∀ x, b5 = some x → w8.heap.size ≤ x.block ∧ x.block ≠ gw) ∧ Hid (w8.heap.size ≤ gw) ∧ Hid (Below w8.heap.size w8 wx))
      case first =>
        have hdd := dwB w8
        refine wp_region_held_drew (S := fun W => GaAt W w.heap.size a k c b k d ∧ Below w8.heap.size w8 W) (by kernel_rfl) ⟨HG8.out.kept hdd, hdd⟩ (fun hHeld => ?_)
        refine wpAnyH_take (i := 0) (v := .pointer (some ⟨w.heap.size, 0, none⟩)) rfl (by kernel_rfl) (by kernel_rfl) (by kernel_rfl) (fun _ _ _ h => h) (Or.inl ⟨by rfl, fun W hW => by rfl⟩) hHeld ?_
        simp only [List.getElem_toArray, List.getElem_cons_zero, Act.put, List.setIfInBounds_toArray, List.set_cons_zero, List.set_cons_succ]
        refine wpAnyH_take (i := 1) (v := .slice a k c) rfl (by kernel_rfl) (by kernel_rfl) (by kernel_rfl) (fun _ _ _ h => h) (Or.inl ⟨by rfl, fun W hW => by have e0 := hW.1.cells.1; clear hW hHeld; go_simp⟩) hHeld ?_
        simp only [List.getElem_toArray, List.getElem_cons_zero, List.getElem_cons_succ, Act.put, List.setIfInBounds_toArray, List.set_cons_zero, List.set_cons_succ]
        refine wpAnyH_take (i := 2) (v := .pointer (some ⟨w.heap.size, 1, none⟩)) rfl (by kernel_rfl) (by kernel_rfl) (by kernel_rfl) (fun _ _ _ h => h) (Or.inl ⟨by rfl, fun W hW => by rfl⟩) hHeld ?_
        simp only [List.getElem_toArray, List.getElem_cons_zero, List.getElem_cons_succ, Act.put, List.setIfInBounds_toArray, List.set_cons_zero, List.set_cons_succ]
        refine wpAnyH_take (i := 3) (v := .slice b k d) rfl (by kernel_rfl) (by kernel_rfl) (by kernel_rfl) (fun _ _ _ h => h) (Or.inl ⟨by rfl, fun W hW => by have e0 := hW.1.cells.2; clear hW hHeld; go_simp⟩) hHeld ?_
        simp only [List.getElem_toArray, List.getElem_cons_zero, List.getElem_cons_succ, Act.put, List.setIfInBounds_toArray, List.set_cons_zero, List.set_cons_succ]
        refine wpAnyH_ready (rs := [4, 6]) (by kernel_rfl) (by simp) ?_
        refine AllReadyH.cons rfl (fun K hK => ?_) (AllReadyH.cons rfl (fun K hK => ?_) AllReadyH.nil)
        · rw [if_pos (by rfl)]
          go_wp2_with fail
          refine (HCI.out _ (bl2 HB8.out hHeld.2)).mono ?_
          rintro e w10 ⟨v5, rfl, ho5, hb5⟩
          have hf5 : ∀ x, sliceAt v5 = some x → w8.heap.size ≤ x.block := own_geB ho5
          have hl5 := own_ltB ho5
          obtain ⟨b5, d5, rfl⟩ := own_slice0 ho5
          have hc5 := own_caps ho5
          refine hK.out _ _ ⟨hHeld.1.kept hb5, bl2 hHeld.2 hb5⟩ (fun hHeldX => ?_)
          clear hK K
          refine wpAnyH_take (i := 5) (v := .agg #[.slice a k c, .slice b5 k d5]) rfl (by kernel_rfl) (by kernel_rfl) (by kernel_rfl) (fun _ _ _ h => h) (Or.inl ⟨by rfl, fun W hW => by clear hW hHeld hHeldX; go_simp⟩) hHeldX ?_
          simp only [List.getElem_toArray, List.getElem_cons_zero, List.getElem_cons_succ, Act.put, List.setIfInBounds_toArray, List.set_cons_zero, List.set_cons_succ]
          refine wpAnyH_ready (rs := [6]) (by kernel_rfl) (by simp) ?_
          refine AllReadyH.cons rfl (fun K hK => ?_) AllReadyH.nil
          rw [if_pos (by rfl)]
          go_wp2_with fail
          have hba := awB w10 (.cells #[.slice none 0 0, .slice none 0 0] 25)
          refine hK.out _ _ ⟨hHeldX.1.kept hba, bl2 hHeldX.2 hba⟩ (fun hHeldZ => ?_)
          clear hK K
          have h25 := Row2.new w10 (.slice none 0 0) (.slice none 0 0)
          have hLst := (LstAt.of_own ho5).kept hba
          have hne5 : ∀ x, b5 = some x → x.block ≠ w10.heap.size := fun x hx e => by have := hl5 x hx; omega
          have hge : w8.heap.size ≤ w10.heap.size := hHeldX.2.size
          refine wpAnyH_ready (rs := [7]) (by kernel_rfl) (by simp) ?_
          refine AllReadyH.cons rfl (fun K hK => ?_) AllReadyH.nil
          rw [if_pos (by rfl)]
          refine op_store_row (w10.alloc (.cells #[.slice none 0 0, .slice none 0 0] 25)) (.tmp 16) (.tmp 137) 25 rfl w10.heap.size 25 _ #[.slice a k c, .slice b5 k d5] rfl rfl h25 ga_i rfl (by simp [Value.oneCell']) ?_
          intro w12 h12 hg12
          have hG12 : GaAt w12 w.heap.size a k c b k d := (hg12.block _ hHeldZ.1.lt (fun e => by have h1 := Option.some.inj e; have h2 := HG8.out.lt; omega)).trans hHeldZ.1
          have hB12 : Below w8.heap.size w8 w12 := Below.grown hHeldZ.2 hg12 hHeldZ.2.size (fun q hq => by cases hq; omega)
          refine hK.out _ _ ⟨hG12, hB12⟩ (fun hHeld12 => ?_)
          clear hK K
          refine wpAnyH_done (by kernel_rfl) ?_ _
          have hL12 : LstAt w12 b5 k ts := hLst.grown hg12 (fun x hx e => by have h1 := Option.some.inj e; have h2 := hne5 x hx; omega)
          go_wp2_with fail
          go_meet
          exact ⟨w10.heap.size, b5, d5, rfl, Hid.mk h12, Hid.mk ⟨hL12, hc5.1, hc5.2⟩, Hid.mk (fun x hx => ⟨hf5 x hx, hne5 x hx⟩), Hid.mk (by omega), Hid.mk hB12⟩
        · rw [if_pos (by rfl)]
          go_wp2_with fail
          have hba := awB w8.drew (.cells #[.slice none 0 0, .slice none 0 0] 25)
          refine hK.out _ _ ⟨hHeld.1.kept hba, bl2 hHeld.2 hba⟩ (fun hHeldX => ?_)
          clear hK K
          refine wpAnyH_ready (rs := [4]) (by kernel_rfl) (by simp) ?_
          refine AllReadyH.cons rfl (fun K hK => ?_) AllReadyH.nil
          rw [if_pos (by rfl)]
          go_wp2_with fail
          refine (HCI.out _ (bl2 HB8.out hHeldX.2)).mono ?_
          rintro e w10 ⟨v5, rfl, ho5, hb5⟩
          have hsz : (w8.drew.alloc (.cells #[.slice none 0 0, .slice none 0 0] 25)).heap.size = w8.heap.size + 1 := by simp
          have hg5 : ∀ x, sliceAt v5 = some x → w8.heap.size + 1 ≤ x.block := fun x hx => Nat.le_trans (Nat.le_of_eq hsz.symm) (own_geB ho5 x hx)
          obtain ⟨b5, d5, rfl⟩ := own_slice0 ho5
          have hc5 := own_caps ho5
          have hf5 : ∀ x, b5 = some x → w8.heap.size ≤ x.block := fun x hx => Nat.le_trans (Nat.le_succ _) (hg5 x hx)
          refine hK.out _ _ ⟨hHeldX.1.kept hb5, bl2 hHeldX.2 hb5⟩ (fun hHeldZ => ?_)
          clear hK K
          refine wpAnyH_take (i := 5) (v := .agg #[.slice a k c, .slice b5 k d5]) rfl (by kernel_rfl) (by kernel_rfl) (by kernel_rfl) (fun _ _ _ h => h) (Or.inl ⟨by rfl, fun W hW => by clear hW hHeld hHeldX hHeldZ; go_simp⟩) hHeldZ ?_
          simp only [List.getElem_toArray, List.getElem_cons_zero, List.getElem_cons_succ, Act.put, List.setIfInBounds_toArray, List.set_cons_zero, List.set_cons_succ]
          have h25 : Row2 w10 w8.heap.size (.slice none 0 0) (.slice none 0 0) := (Row2.new w8.drew (.slice none 0 0) (.slice none 0 0)).kept hb5
          have hLst := LstAt.of_own ho5
          have hne5 : ∀ x, b5 = some x → x.block ≠ w8.heap.size := fun x hx e => by have h1 : w8.heap.size + 1 ≤ x.block := hg5 x hx; omega
          have hge : w8.heap.size ≤ w8.heap.size := Nat.le_refl _
          refine wpAnyH_ready (rs := [7]) (by kernel_rfl) (by simp) ?_
          refine AllReadyH.cons rfl (fun K hK => ?_) AllReadyH.nil
          rw [if_pos (by rfl)]
          refine op_store_row w10 (.tmp 16) (.tmp 137) 25 rfl w8.heap.size 25 _ #[.slice a k c, .slice b5 k d5] rfl rfl h25 ga_i rfl (by simp [Value.oneCell']) ?_
          intro w12 h12 hg12
          have hG12 : GaAt w12 w.heap.size a k c b k d := (hg12.block _ hHeldZ.1.lt (fun e => by have h1 := Option.some.inj e; have h2 := HG8.out.lt; omega)).trans hHeldZ.1
          have hB12 : Below w8.heap.size w8 w12 := Below.grown hHeldZ.2 hg12 hHeldZ.2.size (fun q hq => by cases hq; omega)
          refine hK.out _ _ ⟨hG12, hB12⟩ (fun hHeld12 => ?_)
          clear hK K
          refine wpAnyH_done (by kernel_rfl) ?_ _
          have hL12 : LstAt w12 b5 k ts := hLst.grown hg12 (fun x hx e => by have h1 := Option.some.inj e; have h2 := hne5 x hx; omega)
          go_wp2_with fail
          go_meet
          exact ⟨w8.heap.size, b5, d5, rfl, Hid.mk h12, Hid.mk ⟨hL12, hc5.1, hc5.2⟩, Hid.mk (fun x hx => ⟨hf5 x hx, hne5 x hx⟩), Hid.mk (by omega), Hid.mk hB12⟩
      case rest =>
        obtain ⟨gw, b5, d5, rfl, HWa, HL5, HFb, HGW, HBX⟩ := hcut
        have HGx := Hid.mk (HG8.out.kept HBX.out)
        have HTx := Hid.mk (cell_kept HBX.out HC8.out)
        have HFx := Hid.mk (HF8.out.kept HBX.out)
        have HXx := Hid.mk (HX8.out.kept HBX.out)
        have HR1x := Hid.mk (HR1.out.kept HBX.out)
        have HL1x := Hid.mk (HL1.out.kept HBX.out)
        have HPx := Hid.mk (HP.out.kept HBX.out)
        have HBx := Hid.mk (bl2 HB8.out HBX.out)
        have HGL := Hid.mk HG8.out.lt
        have HTL := Hid.mk (block_lt_of_cell HC8.out)
        have HFL := Hid.mk HF8.out.lt
        have HXL := Hid.mk HX8.out.lt
        clear HG8 HC8 HF8 HB8 HCI
        obtain ⟨k0, k1⟩ := HGx.out.cells
        obtain ⟨i8, hi8, h80, h81, h82⟩ := info_parts info_ln
        go_wp2_with fail
        go_loopw [17, 141] (fun vq i wr => ∃ (j : Nat) (Q : List LnR) (v : Value), j ≤ k ∧ v = vq ∧ i = .int .i64 j ∧ Hid (wr.ownsRow wc.heap.size 49 8 v Q.length (lnsC Q)) ∧ Hid (∀ q ∈ Q, q.a = fa0 ∧ q.len = len ∧ q.cap = cap) ∧ Hid (Q.map LnR.k = (sntL rs ts time bus idn lo fa re sz len j).map (lnK time lo fa re sz len)) ∧ Hid (LstAt wr b5 k (newL rs ts time bus idn lo fa re sz len j)) ∧ Hid (wc.grownBy wr (blkOf b5))) (fun _ i _ => k - (intOf i).toNat)
        case atStart => exact ⟨0, [], _, Nat.zero_le _, rfl, rfl, Hid.mk (World.ownsRow_nil _ _ _ _), Hid.mk (fun q hq => by cases hq), Hid.mk rfl, Hid.mk HL5.out.1, Hid.mk (grown_refl _ _)⟩
        case round =>
          clear k0 k1
          obtain ⟨j, Q, v, hj, rfl, rfl, HO, HQA, HM, HLk, HGR⟩ := hrel
          have HFA : Hid (∀ q, blkOf b5 = some q → w8.heap.size ≤ q ∧ q ≠ gw) := Hid.mk (fun q hq => by
            cases b5 with
            | none => cases hq
            | some x => cases hq; exact HFb.out x rfl)
          have HB := Hid.mk (show Below w.heap.size w wr from Below.grown HBx.out HGR.out HBx.out.size (fun q hq => by have := (HFA.out q hq).1; have := HGL.out; omega))
          have HGA : Hid (GaAt wr w.heap.size a k c b k d) := Hid.mk ((HGR.out.block _ HGx.out.lt (fun e => by have := (HFA.out _ e.symm).1; have := HGL.out; omega)).trans HGx.out)
          have HTI : Hid (wr.cell? ⟨w.heap.size + 1, 0, none⟩ = some (.int .i64 time)) := Hid.mk (by
            have h1 := HTx.out
            unfold World.cell? at h1 ⊢
            rw [HGR.out.block _ (block_lt_of_cell HTx.out) (fun e => by have h2 : w8.heap.size ≤ w.heap.size + 1 := (HFA.out _ e.symm).1; have h3 : w.heap.size + 1 < w8.heap.size := HTL.out; omega)]
            exact h1)
          have HFR : Hid (Row6 wr (w.heap.size + 2) (idn : Int) lo fa re sz fa0 len cap) := Hid.mk ((HGR.out.block _ HFx.out.lt (fun e => by have := (HFA.out _ e.symm).1; have := HFL.out; omega)).trans HFx.out)
          have HWB : Hid (Row2 wr gw (.slice a k c) (.slice b5 k d5)) := Hid.mk ((HGR.out.block _ HWa.out.lt (fun e => by have := (HFA.out _ e.symm).2; omega)).trans HWa.out)
          by_cases hlt : j < k
          · have hlt' : (j : Int) < (k : Int) := by omega
            obtain ⟨x, rfl⟩ := HRR.out.some hlt
            obtain ⟨z, rfl⟩ := HTT.out.some hlt
            obtain ⟨gB, cur, rfl, hcu, -⟩ := lst_some HL5.out.1 hlt
            have HGB : Hid (gB < wc.heap.size) := Hid.mk (Array.getElem?_eq_some_iff.1 hcu).1
            obtain ⟨c0, c1, c2, c3, c4, c5, c6⟩ := (HRR.out.kept HB.out).cell x rfl j hlt
            have c7 := (HTT.out.kept HB.out).cell z rfl j hlt
            obtain ⟨r, hr⟩ : ∃ r, r = rs.getD j noR := ⟨_, rfl⟩
            obtain ⟨t, ht⟩ : ∃ t, t = ts.getD j 0 := ⟨_, rfl⟩
            have hokr := allR_at HALL.out (j := j) (by rw [HRR.out.len]; exact hlt)
            rw [← hr, ← ht] at hokr
            rw [← hr] at c0 c1 c2 c3 c4 c5 c6
            rw [← ht] at c7
            have hokf : okFl r.f = true := by unfold okR at hokr; simp at hokr; exact hokr.1.2
            have hokad : addB r = true := by unfold okR at hokr; simp at hokr; exact hokr.2
            have htb : (-1 ≤ t ∧ t ≤ 1000000) ∧ (0 ≤ r.ev ∧ r.ev ≤ 1000000) := by unfold okR fitR at hokr; simp at hokr; omega
            have hb1 := awB wr (rtC r)
            have HB1 := Hid.mk (bl2 HB.out hb1)
            have HG1 := Hid.mk (HGA.out.kept hb1)
            have HV1 := Hid.mk (RtAt.new wr r)
            have HZ1 := Hid.mk (cell_kept hb1 c7)
            have HT1 := Hid.mk (cell_kept hb1 HTI.out)
            have HF1 := Hid.mk (HFR.out.kept hb1)
            have HO1 := Hid.mk (ownsRow_below HO.out hb1)
            have HLa := Hid.mk (HLk.out.kept hb1)
            have HGR1 := Hid.mk (grown_below HGR.out hb1)
            have HWB1 := Hid.mk (HWB.out.kept hb1)
            have HCR := Hid.mk (lcar_any r bus idn lo fa re sz fa0 len cap (wr.alloc (rtC r)) hokf hokad HLEN.out (by have := HID1.out; omega))
            have HS0 : Hid (sntL rs ts time bus idn lo fa re sz len (j + 1) = sntL rs ts time bus idn lo fa re sz len j ++ (if sndB r t time bus idn lo fa re sz len = true then [(r.tb, (idn : Int) + r.add)] else [])) := Hid.mk (by rw [hr, ht]; rfl)
            have HN0 : Hid (newL rs ts time bus idn lo fa re sz len (j + 1) = if sndB r t time bus idn lo fa re sz len = true then (newL rs ts time bus idn lo fa re sz len j).set j time else newL rs ts time bus idn lo fa re sz len j) := Hid.mk (by rw [hr, ht]; rfl)
            have HSB : Hid (sndB r t time bus idn lo fa re sz len = (carB r bus idn lo fa re sz len && !soonB r t time)) := Hid.mk rfl
            clear hr ht hb1 c7 hokf hokad hokr hcu
            generalize carB r bus idn lo fa re sz len = CB at *
            obtain ⟨p0, p1, p2, p3, p4, p5⟩ := HF1.out.fr
            obtain ⟨fr, tb, ⟨fw, fm, flo⟩, add, ev⟩ := r
            unfold rtC at HB1 HG1 HV1 HZ1 HT1 HF1 HO1 HLa HGR1 HWB1 HCR p0 p1 p2 p3 p4 p5
            unfold Rt.val at HCR
            unfold frameV at HCR
            simp only at c0 c1 c2 c3 c4 c5 c6 HB1 HG1 HV1 HZ1 HT1 HF1 HO1 HLa HGR1 HWB1 HCR HS0 p0 p1 p2 p3 p4 p5 htb
            go_wp2_with fail
            generalize wr.alloc (.cells #[.int .i64 fr, .int .i64 tb, .int .i64 fw, .int .i64 fm, .bool flo, .int .i64 add, .int .i64 ev] 45) = W1' at *
            refine HCR.out.mono ?_
            rintro e w2' ⟨⟨i', rfl, himp⟩, hb2⟩
            have hb3 := awB w2' (frameC i' lo fa re sz fa0 len cap)
            have hb23 := bl2 hb2 hb3
            have HB3 := Hid.mk (bl2 HB1.out hb23)
            have HG3 := Hid.mk (HG1.out.kept hb23)
            have HV3 := Hid.mk (HV1.out.kept hb23)
            have HZ3 := Hid.mk (cell_kept hb23 HZ1.out)
            have HT3 := Hid.mk (cell_kept hb23 HT1.out)
            have HF3 := Hid.mk (Row6.new w2' i' lo fa re sz fa0 len cap)
            have HO3 := Hid.mk (ownsRow_below HO1.out hb23)
            have HL3 := Hid.mk (HLa.out.kept hb23)
            have HGR3 := Hid.mk (grown_below HGR1.out hb23)
            have HWB3 := Hid.mk (HWB1.out.kept hb23)
            have HW2 : Hid (wc.heap.size ≤ w2'.heap.size) := Hid.mk (Nat.le_trans HGR1.out.size hb2.size)
            have HIM := Hid.mk himp
            unfold frameC at HB3 HG3 HV3 HZ3 HT3 HF3 HO3 HL3 HGR3 HWB3
            clear hb2 hb3 hb23 himp HCR HB1 HG1 HV1 HZ1 HT1 HF1 HO1 HLa HGR1 HWB1 c0 c1 c2 c3 c4 c5 c6 p0 p1 p2 p3 p4 p5
            go_wp2_with fail
            generalize w2'.alloc (.cells #[.int .i64 i', .bool lo, .bool fa, .bool re, .int .i64 sz, .slice fa0 len cap] 28) = W3 at *
            obtain ⟨⟨ht2, ht3⟩, hev0, hev1⟩ := htb
            cases CB with
            | false =>
              have hsb := HSB.out
              simp only [Bool.false_and] at hsb
              rw [hsb] at HS0 HN0
              simp only [Bool.false_eq_true, if_false, List.append_nil] at HS0 HN0
              clear hsb HSB
              have rk := fun d os => (HG3.out.kept (below_regrown W3 d os)).cells.2
              have rt := fun d os => cell_kept (below_regrown W3 d os) HT3.out
              have r6 := fun d os => cell_kept (below_regrown W3 d os) HV3.out.c6
              have rz := fun d os => cell_kept (below_regrown W3 d os) HZ3.out
              simp only at r6
              refine wp_region_quiet_below (by kernel_rfl) (by kernel_rfl) ?_
              repeat (go_big_quiet_step (fail))
              refine wpQuiet_nil ?_
              intro _ hw'
              obtain ⟨⟨dq, osq⟩, hw''⟩ := hw'
              have hbq := below_regrown W3 dq osq
              rw [hw'']
              have HB4 := Hid.mk (bl2 HB3.out hbq)
              have HV4 := Hid.mk (HV3.out.kept hbq)
              have HF4 := Hid.mk (HF3.out.kept hbq)
              have HT4 := Hid.mk (cell_kept hbq HT3.out)
              have HO4 := Hid.mk (ownsRow_below HO3.out hbq)
              have HL4 := Hid.mk (HL3.out.kept hbq)
              have HGR4 := Hid.mk (grown_below HGR3.out hbq)
              have HWB4 := Hid.mk (HWB3.out.kept hbq)
              clear rk rt r6 rz hw'' hbq
              generalize Go.Sort.grow (redrawn W3 dq) osq = W4 at *
              go_wp2_with fail
              go_roundw
              case rel => exact ⟨j + 1, Q, _, by omega, rfl, by go_num, HO4, HQA, by rw [HS0.out]; exact HM, by rw [HN0.out]; exact HL4, HGR4⟩
              case measure => simp [intOf]; omega
            | true =>
              have HII := Hid.mk (HIM.out rfl)
              clear HIM
              by_cases hm1 : t = -1
              · subst hm1
                have hsb := HSB.out
                rw [show soonB ⟨fr, tb, ⟨fw, fm, flo⟩, add, ev⟩ (-1) time = false by unfold soonB; simp; try omega] at hsb
                simp only [Bool.not_false, Bool.and_true] at hsb
                rw [hsb] at HS0 HN0
                simp only [if_true] at HS0 HN0
                clear hsb HSB
                have rk := fun d os => (HG3.out.kept (below_regrown W3 d os)).cells.2
                have rt := fun d os => cell_kept (below_regrown W3 d os) HT3.out
                have r6 := fun d os => cell_kept (below_regrown W3 d os) HV3.out.c6
                have rz := fun d os => cell_kept (below_regrown W3 d os) HZ3.out
                simp only at r6
                refine wp_region_quiet_below (by kernel_rfl) (by kernel_rfl) ?_
                repeat (go_big_quiet_step (fail))
                refine wpQuiet_nil ?_
                intro _ hw'
                obtain ⟨⟨dq, osq⟩, hw''⟩ := hw'
                have hbq := below_regrown W3 dq osq
                rw [hw'']
                have HB4 := Hid.mk (bl2 HB3.out hbq)
                have HV4 := Hid.mk (HV3.out.kept hbq)
                have HF4 := Hid.mk (HF3.out.kept hbq)
                have HT4 := Hid.mk (cell_kept hbq HT3.out)
                have HO4 := Hid.mk (ownsRow_below HO3.out hbq)
                have HL4 := Hid.mk (HL3.out.kept hbq)
                have HGR4 := Hid.mk (grown_below HGR3.out hbq)
                have HWB4 := Hid.mk (HWB3.out.kept hbq)
                clear rk rt r6 rz hw'' hbq
                generalize Go.Sort.grow (redrawn W3 dq) osq = W4 at *
                have y1 := HWB4.out.cells.2
                obtain ⟨z1, f1, -⟩ := HL4.out.cell hlt
                have t4 := HT4.out
                have hgb8 : w8.heap.size ≤ gB := (HFb.out _ rfl).1
                have t6 : (W4.setCell ⟨gB, j, none⟩ (.int .i64 time)).cell? ⟨w.heap.size + 1, 0, none⟩ = some (.int .i64 time) := by rw [cell_neR (show w.heap.size + 1 ≠ gB by have h3 : w.heap.size + 1 < w8.heap.size := HTL.out; omega)]; exact t4
                have v6 : (W4.setCell ⟨gB, j, none⟩ (.int .i64 time)).cell? ⟨wr.heap.size, 1, none⟩ = some (.int .i64 tb) := by rw [cell_neR (show wr.heap.size ≠ gB by have h1 := HGB.out; have h2 := HGR.out.size; omega)]; exact HV4.out.c1
                obtain ⟨p0, p1, p2, p3, p4, p5⟩ := (HF4.out.far (p := ⟨gB, j, none⟩) (show w2'.heap.size ≠ gB by have h1 := HGB.out; have h2 := HW2.out; omega) (.int .i64 time)).fr
                have hx5 := awB (W4.setCell ⟨gB, j, none⟩ (.int .i64 time)) (.cells #[.int .i64 time, .int .i64 tb, .int .i64 i', .bool lo, .bool fa, .bool re, .int .i64 sz, .slice fa0 len cap] 49)
                have HL6 := Hid.mk ((HL4.out.set hlt time).kept hx5)
                have HO6 := Hid.mk (ownsRow_below (owns_setB HO4.out (a := ⟨gB, j, none⟩) HGB.out (.int .i64 time)) hx5)
                have HGR6 := Hid.mk (grown_below (show wc.grownBy (W4.setCell ⟨gB, j, none⟩ (.int .i64 time)) (blkOf (some ⟨gB, 0, none⟩)) from grown_set_row HGR4.out j _) hx5)
                have hce := new_cellsR (W4.setCell ⟨gB, j, none⟩ (.int .i64 time)) [.int .i64 time, .int .i64 tb, .int .i64 i', .bool lo, .bool fa, .bool re, .int .i64 sz, .slice fa0 len cap] 49
                rw [show (W4.setCell ⟨gB, j, none⟩ (.int .i64 time)).heap.size = W4.heap.size by simp] at hce
                have HCE := Hid.mk hce
                have HPL : Hid (Q.length ≤ 20) := Hid.mk (by have h1 := congrArg List.length HM.out; simp only [List.length_map] at h1; have h2 := sntL_len rs ts time bus idn lo fa re sz len j; have h3 := HN20.out; omega)
                clear hx5 hce
                go_wp2_with (
                   at_builtin
                   refine wpList_append_two rfl (.tmp 179) (.tmp 185) 29 rfl wc.heap.size 49 i8 (.agg #[.int .i64 0, .int .i64 0, .int .i64 0, .bool false, .bool false, .bool false, .int .i64 0, .slice none 0 0]) 8 64 Tryd.underlying29 hi8 h80 h81 h82 rfl (by decide) _ _ _ rfl HO6.out ⟨W4.heap.size, 0, none⟩ 1 1 [.int .i64 time, .int .i64 tb, .int .i64 i', .bool lo, .bool fa, .bool re, .int .i64 sz, .slice fa0 len cap] rfl rfl HCE.out (by intro u hu; simp at hu; rcases hu with rfl | rfl | rfl | rfl | rfl | rfl | rfl | rfl <;> rfl) (by decide) (by have := HPL.out; unfold maxLen; omega) (by have := HPL.out; omega) HGR6.out.size ?_
                   intro v7 w7 hown7 hgrow7 hblk7
                   have HGQ : Hid (∀ q, v.ownBlock = some q → wc.heap.size ≤ q) := Hid.mk (fun q hq => (HO6.out.lt q hq).1)
                   have HO7 : Hid (w7.ownsRow wc.heap.size 49 8 v7 (Q ++ [(⟨time, tb, i', lo, fa, re, sz, fa0, len, cap⟩ : LnR)]).length (lnsC (Q ++ [(⟨time, tb, i', lo, fa, re, sz, fa0, len, cap⟩ : LnR)]))) := Hid.mk (by rw [lnsC_add, List.length_append]; exact hown7)
                   have HL7 := Hid.mk (HL6.out.grown hgrow7 (fun x hx e => by cases hx; have h1 : wc.heap.size ≤ gB := HGQ.out _ e; have h2 := HGB.out; omega))
                   have HGR7 := Hid.mk (grown_trans HGR6.out hgrow7 HGQ.out)
                   clear hown7 hgrow7 hblk7)
                have HM8 : Hid ((Q ++ [(⟨time, tb, i', lo, fa, re, sz, fa0, len, cap⟩ : LnR)]).map LnR.k = (sntL rs ts time bus idn lo fa re sz len (j + 1)).map (lnK time lo fa re sz len)) := Hid.mk (by rw [HS0.out, List.map_append, List.map_append, HM.out, HII.out]; rfl)
                have HQ8 : Hid (∀ q ∈ Q ++ [(⟨time, tb, i', lo, fa, re, sz, fa0, len, cap⟩ : LnR)], q.a = fa0 ∧ q.len = len ∧ q.cap = cap) := Hid.mk (fun q hq => by
                  rcases List.mem_append.1 hq with hq | hq
                  · exact HQA.out q hq
                  · rw [List.mem_singleton] at hq; subst hq; exact ⟨rfl, rfl, rfl⟩)
                go_roundw
                case rel => exact ⟨j + 1, _, v7, by omega, rfl, by go_num, HO7, HQ8, HM8, by rw [HN0.out]; exact HL7, HGR7⟩
                case measure => simp [intOf]; omega
              · have hmb : (t == -1) = false := by simpa using hm1
                obtain ⟨TE, hTE⟩ : ∃ TE, TE = t + ev := ⟨_, rfl⟩
                have hte : t + ev = TE := hTE.symm
                have hteb : TE ≤ 2000000 ∧ -1 ≤ TE := by omega
                obtain ⟨hteb1, hteb2⟩ := hteb
                by_cases hge : TE ≤ time
                · have HX : Hid (soonB ⟨fr, tb, ⟨fw, fm, flo⟩, add, ev⟩ t time = false) := Hid.mk (by unfold soonB; simp; omega)
                  have hsb := HSB.out
                  rw [HX.out] at hsb
                  simp only [Bool.not_false, Bool.and_true] at hsb
                  rw [hsb] at HS0 HN0
                  simp only [if_true] at HS0 HN0
                  clear hsb HSB hTE
                  have rk := fun d os => (HG3.out.kept (below_regrown W3 d os)).cells.2
                  have rt := fun d os => cell_kept (below_regrown W3 d os) HT3.out
                  have r6 := fun d os => cell_kept (below_regrown W3 d os) HV3.out.c6
                  have rz := fun d os => cell_kept (below_regrown W3 d os) HZ3.out
                  simp only at r6
                  refine wp_region_quiet_below (by kernel_rfl) (by kernel_rfl) ?_
                  repeat (go_big_quiet_step (fail))
                  refine wpQuiet_nil ?_
                  intro _ hw'
                  obtain ⟨⟨dq, osq⟩, hw''⟩ := hw'
                  have hbq := below_regrown W3 dq osq
                  rw [hw'']
                  have HB4 := Hid.mk (bl2 HB3.out hbq)
                  have HV4 := Hid.mk (HV3.out.kept hbq)
                  have HF4 := Hid.mk (HF3.out.kept hbq)
                  have HT4 := Hid.mk (cell_kept hbq HT3.out)
                  have HO4 := Hid.mk (ownsRow_below HO3.out hbq)
                  have HL4 := Hid.mk (HL3.out.kept hbq)
                  have HGR4 := Hid.mk (grown_below HGR3.out hbq)
                  have HWB4 := Hid.mk (HWB3.out.kept hbq)
                  clear rk rt r6 rz hw'' hbq
                  generalize Go.Sort.grow (redrawn W3 dq) osq = W4 at *
                  have y1 := HWB4.out.cells.2
                  obtain ⟨z1, f1, -⟩ := HL4.out.cell hlt
                  have t4 := HT4.out
                  have hgb8 : w8.heap.size ≤ gB := (HFb.out _ rfl).1
                  have t6 : (W4.setCell ⟨gB, j, none⟩ (.int .i64 time)).cell? ⟨w.heap.size + 1, 0, none⟩ = some (.int .i64 time) := by rw [cell_neR (show w.heap.size + 1 ≠ gB by have h3 : w.heap.size + 1 < w8.heap.size := HTL.out; omega)]; exact t4
                  have v6 : (W4.setCell ⟨gB, j, none⟩ (.int .i64 time)).cell? ⟨wr.heap.size, 1, none⟩ = some (.int .i64 tb) := by rw [cell_neR (show wr.heap.size ≠ gB by have h1 := HGB.out; have h2 := HGR.out.size; omega)]; exact HV4.out.c1
                  obtain ⟨p0, p1, p2, p3, p4, p5⟩ := (HF4.out.far (p := ⟨gB, j, none⟩) (show w2'.heap.size ≠ gB by have h1 := HGB.out; have h2 := HW2.out; omega) (.int .i64 time)).fr
                  have hx5 := awB (W4.setCell ⟨gB, j, none⟩ (.int .i64 time)) (.cells #[.int .i64 time, .int .i64 tb, .int .i64 i', .bool lo, .bool fa, .bool re, .int .i64 sz, .slice fa0 len cap] 49)
                  have HL6 := Hid.mk ((HL4.out.set hlt time).kept hx5)
                  have HO6 := Hid.mk (ownsRow_below (owns_setB HO4.out (a := ⟨gB, j, none⟩) HGB.out (.int .i64 time)) hx5)
                  have HGR6 := Hid.mk (grown_below (show wc.grownBy (W4.setCell ⟨gB, j, none⟩ (.int .i64 time)) (blkOf (some ⟨gB, 0, none⟩)) from grown_set_row HGR4.out j _) hx5)
                  have hce := new_cellsR (W4.setCell ⟨gB, j, none⟩ (.int .i64 time)) [.int .i64 time, .int .i64 tb, .int .i64 i', .bool lo, .bool fa, .bool re, .int .i64 sz, .slice fa0 len cap] 49
                  rw [show (W4.setCell ⟨gB, j, none⟩ (.int .i64 time)).heap.size = W4.heap.size by simp] at hce
                  have HCE := Hid.mk hce
                  have HPL : Hid (Q.length ≤ 20) := Hid.mk (by have h1 := congrArg List.length HM.out; simp only [List.length_map] at h1; have h2 := sntL_len rs ts time bus idn lo fa re sz len j; have h3 := HN20.out; omega)
                  clear hx5 hce
                  go_wp2_with (
                     at_builtin
                     refine wpList_append_two rfl (.tmp 179) (.tmp 185) 29 rfl wc.heap.size 49 i8 (.agg #[.int .i64 0, .int .i64 0, .int .i64 0, .bool false, .bool false, .bool false, .int .i64 0, .slice none 0 0]) 8 64 Tryd.underlying29 hi8 h80 h81 h82 rfl (by decide) _ _ _ rfl HO6.out ⟨W4.heap.size, 0, none⟩ 1 1 [.int .i64 time, .int .i64 tb, .int .i64 i', .bool lo, .bool fa, .bool re, .int .i64 sz, .slice fa0 len cap] rfl rfl HCE.out (by intro u hu; simp at hu; rcases hu with rfl | rfl | rfl | rfl | rfl | rfl | rfl | rfl <;> rfl) (by decide) (by have := HPL.out; unfold maxLen; omega) (by have := HPL.out; omega) HGR6.out.size ?_
                     intro v7 w7 hown7 hgrow7 hblk7
                     have HGQ : Hid (∀ q, v.ownBlock = some q → wc.heap.size ≤ q) := Hid.mk (fun q hq => (HO6.out.lt q hq).1)
                     have HO7 : Hid (w7.ownsRow wc.heap.size 49 8 v7 (Q ++ [(⟨time, tb, i', lo, fa, re, sz, fa0, len, cap⟩ : LnR)]).length (lnsC (Q ++ [(⟨time, tb, i', lo, fa, re, sz, fa0, len, cap⟩ : LnR)]))) := Hid.mk (by rw [lnsC_add, List.length_append]; exact hown7)
                     have HL7 := Hid.mk (HL6.out.grown hgrow7 (fun x hx e => by cases hx; have h1 : wc.heap.size ≤ gB := HGQ.out _ e; have h2 := HGB.out; omega))
                     have HGR7 := Hid.mk (grown_trans HGR6.out hgrow7 HGQ.out)
                     clear hown7 hgrow7 hblk7)
                  have HM8 : Hid ((Q ++ [(⟨time, tb, i', lo, fa, re, sz, fa0, len, cap⟩ : LnR)]).map LnR.k = (sntL rs ts time bus idn lo fa re sz len (j + 1)).map (lnK time lo fa re sz len)) := Hid.mk (by rw [HS0.out, List.map_append, List.map_append, HM.out, HII.out]; rfl)
                  have HQ8 : Hid (∀ q ∈ Q ++ [(⟨time, tb, i', lo, fa, re, sz, fa0, len, cap⟩ : LnR)], q.a = fa0 ∧ q.len = len ∧ q.cap = cap) := Hid.mk (fun q hq => by
                    rcases List.mem_append.1 hq with hq | hq
                    · exact HQA.out q hq
                    · rw [List.mem_singleton] at hq; subst hq; exact ⟨rfl, rfl, rfl⟩)
                  go_roundw
                  case rel => exact ⟨j + 1, _, v7, by omega, rfl, by go_num, HO7, HQ8, HM8, by rw [HN0.out]; exact HL7, HGR7⟩
                  case measure => simp [intOf]; omega
                · have HX : Hid (soonB ⟨fr, tb, ⟨fw, fm, flo⟩, add, ev⟩ t time = true) := Hid.mk (by unfold soonB; simp; omega)
                  have hsb := HSB.out
                  rw [HX.out] at hsb
                  simp only [Bool.not_true, Bool.and_false] at hsb
                  rw [hsb] at HS0 HN0
                  simp only [Bool.false_eq_true, if_false, List.append_nil] at HS0 HN0
                  clear hsb HSB hTE
                  have rk := fun d os => (HG3.out.kept (below_regrown W3 d os)).cells.2
                  have rt := fun d os => cell_kept (below_regrown W3 d os) HT3.out
                  have r6 := fun d os => cell_kept (below_regrown W3 d os) HV3.out.c6
                  have rz := fun d os => cell_kept (below_regrown W3 d os) HZ3.out
                  simp only at r6
                  refine wp_region_quiet_below (by kernel_rfl) (by kernel_rfl) ?_
                  repeat (go_big_quiet_step (fail))
                  refine wpQuiet_nil ?_
                  intro _ hw'
                  obtain ⟨⟨dq, osq⟩, hw''⟩ := hw'
                  have hbq := below_regrown W3 dq osq
                  rw [hw'']
                  have HB4 := Hid.mk (bl2 HB3.out hbq)
                  have HV4 := Hid.mk (HV3.out.kept hbq)
                  have HF4 := Hid.mk (HF3.out.kept hbq)
                  have HT4 := Hid.mk (cell_kept hbq HT3.out)
                  have HO4 := Hid.mk (ownsRow_below HO3.out hbq)
                  have HL4 := Hid.mk (HL3.out.kept hbq)
                  have HGR4 := Hid.mk (grown_below HGR3.out hbq)
                  have HWB4 := Hid.mk (HWB3.out.kept hbq)
                  clear rk rt r6 rz hw'' hbq
                  generalize Go.Sort.grow (redrawn W3 dq) osq = W4 at *
                  go_wp2_with fail
                  go_roundw
                  case rel => exact ⟨j + 1, Q, _, by omega, rfl, by go_num, HO4, HQA, by rw [HS0.out]; exact HM, by rw [HN0.out]; exact HL4, HGR4⟩
                  case measure => simp [intOf]; omega
          · obtain rfl : j = k := by omega
            have hlow : ∀ p u, w8.cell? p = some u → wr.cell? p = some u := fun p u hu => by
              have h1 := block_lt_of_cell hu
              have h2 := cell_kept HBX.out hu
              unfold World.cell? at h2 ⊢
              rw [HGR.out.block _ (Nat.lt_of_lt_of_le h1 HBX.out.size) (fun e => by have h3 := (HFA.out _ e.symm).1; omega)]
              exact h2
            have HR9 := Hid.mk (rts_low HR1.out hlow)
            have HL9 := Hid.mk (nums_low HL1.out hlow)
            have HP9 := Hid.mk (lns_low HP.out hlow)
            have HX9 : Hid (GaAt wr s1 a1 j x1 b1 j d1) := Hid.mk ((HGR.out.block _ HXx.out.lt (fun e => by have h3 := (HFA.out _ e.symm).1; have h4 := HXL.out; omega)).trans HXx.out)
            obtain ⟨l9, c9, hv9⟩ := own_slice0 HO.out
            subst hv9
            have hql : Q.length = ln := by have h1 := congrArg List.length HM.out; have h2 := congrArg List.length HPK.out; have h3 := HP9.out.len; simp only [List.length_map] at h1 h2; omega
            have hQ9 := lns_of (dt := dt) HO.out rfl (fun q hq => by obtain ⟨e1, e2, e3⟩ := HQA.out q hq; rw [e1, e2, e3]; exact isBytes_below HDD.out HB.out)
            rw [hql] at hQ9 ⊢
            have HQ9 := Hid.mk hQ9
            have HKE : Hid (P.map LnR.k = Q.map LnR.k) := Hid.mk (by rw [HPK.out, HM.out])
            have HSG := Hid.mk (sameGate_true a1 j x1 b1 j d1 a c b5 d5 rs _ wr HR9.out HL9.out (HRR.out.kept HB.out) (HLk.out.nums HL5.out.2.1 HL5.out.2.2))
            unfold gaV at HSG
            obtain ⟨y0, y1⟩ := HX9.out.cells
            obtain ⟨z0, z1⟩ := HWB.out.cells
            clear hlow hQ9 hql
            go_wp2_with fail
            refine HSG.out.mono ?_
            rintro e w9 ⟨rfl, hb9⟩
            have HB9 := Hid.mk (bl2 HB.out hb9)
            have HSL := Hid.mk (sameLines_true l1 l9 ln lc c9 P Q dt w9 (HP9.out.kept hb9) (HQ9.out.kept hb9) HKE.out)
            clear hb9 y0 y1 z0 z1
            go_wp2_with fail
            refine HSL.out.mono ?_
            rintro e w10 ⟨rfl, hb10⟩
            have HB10 := Hid.mk (bl2 HB9.out hb10)
            clear hb10
            go_wp2_with fail
            go_ret
            exact ⟨by first | rfl | simp, HB10.out⟩
end Bw
end Go.Proofs.YtapjiopnjfldhaaDoor
