/- The law FilterSame: its walk, wrong filters. -/
import Derived.Test.YtfmjhgggoklaoaaDoorFinLaw
namespace Go.Proofs.YtfmjhgggoklaoaaDoor
open Go.ChangeShapes Go.WideShapes Go.ChangeAt Go.RowKit
namespace Bw
open Bm Cm
set_option maxHeartbeats 8000000 in
set_option maxRecDepth 100000 in
theorem fsA_e (a : Option Addr) (n c : Nat) (l : List Fl) (id : Int) (lo fa re : Bool) (sz : Int) (fa0 : Option Addr) (len cap : Nat) (low high : Int) (w : World) (hF : IsFils w a n c l) (hL : LastsAt w) (hE : chkFl l ≠ 0) (hr : ¬ (0 ≤ low ∧ low ≤ high ∧ high ≤ (topN lo : Int))) :
    Calls Tryd.prog 7 #[.slice a n c, frameV id lo fa re sz fa0 len cap, .int .i64 low, .int .i64 high] w fun e w' => e = .returned (.bool true) ∧ Below w.heap.size w w' := by
  have hb := below_box w id lo fa re sz fa0 len cap
  have HFR := Hid.mk (FrAt.box w id lo fa re sz fa0 len cap)
  have HB := Hid.mk hb
  have HFI := Hid.mk (fun W (hb : Below w.heap.size w W) => filtered_any W (hL.kept hb))
  have HLE := Hid.mk (least_bad a n c l _ (hF.kept hb) (hL.kept hb) hE)
  have he : (chkFl l == 0) = false := by simpa using hE
  have HRG := Hid.mk (fun W (hb : Below w.heap.size w W) => ranges_bad low high lo W (hL.kept hb) hr)
  generalize chkFl l = ec at *
  clear hF hL hb hE hr
  obtain ⟨k0, k1, k2, k3, k4, k5⟩ := HFR.out
  unfold frameC at HB HFR HLE k0 k1 k2 k3 k4 k5
  unfold frameV at ⊢
  go_enter Tryd.func7, Tryd.ntmps7
  go_wp2_with fail
  refine HLE.out.mono ?_
  rintro e w1 ⟨rfl, hb1⟩
  have HB1 := Hid.mk (bl2 HB.out hb1)
  have HFR1 := Hid.mk (HFR.out.kept hb1)
  clear hb1 k0 k1 k2 k3 k4 k5 HB HFR
  obtain ⟨k0, k1, k2, k3, k4, k5⟩ := HFR1.out
  go_wp2_with fail
  refine (HFI.out _ HB1.out).mono ?_
  rintro e w2 ⟨rfl, hb2⟩
  have HB2 := Hid.mk (bl2 HB1.out hb2)
  have HFR2 := Hid.mk (HFR1.out.kept hb2)
  clear hb2 k0 k1 k2 k3 k4 k5 HB1 HFR1
  obtain ⟨k0, k1, k2, k3, k4, k5⟩ := HFR2.out
  go_wp2_with fail
  refine (HRG.out _ HB2.out).mono ?_
  rintro e w3 ⟨rfl, hb3⟩
  have HB3 := Hid.mk (bl2 HB2.out hb3)
  have HFR3 := Hid.mk (HFR2.out.kept hb3)
  clear hb3 k0 k1 k2 k3 k4 k5 HB2 HFR2
  obtain ⟨k0, k1, k2, k3, k4, k5⟩ := HFR3.out
  go_wp2_with fail
  go_ret
  exact ⟨rfl, HB3.out⟩
set_option maxHeartbeats 8000000 in
set_option maxRecDepth 100000 in
theorem fsA_m (a : Option Addr) (n c : Nat) (l : List Fl) (id : Int) (lo fa re : Bool) (sz : Int) (fa0 : Option Addr) (len cap : Nat) (low high : Nat) (w : World) (hF : IsFils w a n c l) (hL : LastsAt w) (hE : chkFl l ≠ 0) (h1 : low ≤ high) (h2 : high ≤ topN lo) (hM : 16 < (rngN lo high low).length) :
    Calls Tryd.prog 7 #[.slice a n c, frameV id lo fa re sz fa0 len cap, .int .i64 low, .int .i64 high] w fun e w' => e = .returned (.bool true) ∧ Below w.heap.size w w' := by
  have hb := below_box w id lo fa re sz fa0 len cap
  have HFR := Hid.mk (FrAt.box w id lo fa re sz fa0 len cap)
  have HB := Hid.mk hb
  have HFI := Hid.mk (fun W (hb : Below w.heap.size w W) => filtered_any W (hL.kept hb))
  have HLE := Hid.mk (least_bad a n c l _ (hF.kept hb) (hL.kept hb) hE)
  have he : (chkFl l == 0) = false := by simpa using hE
  have HRG := Hid.mk (fun W (hb : Below w.heap.size w W) => ranges_ok low high lo W (hL.kept hb) h1 h2)
  obtain ⟨M, hMl⟩ : ∃ M, M = (rngN lo high low).length := ⟨_, rfl⟩
  have HML := Hid.mk hMl
  rw [← hMl] at hM
  have hM' : (16 : Int) < (M : Int) := by omega
  generalize chkFl l = ec at *
  clear hF hL hb hE h1 h2 hMl hM
  obtain ⟨k0, k1, k2, k3, k4, k5⟩ := HFR.out
  unfold frameC at HB HFR HLE k0 k1 k2 k3 k4 k5
  unfold frameV at ⊢
  go_enter Tryd.func7, Tryd.ntmps7
  go_wp2_with fail
  refine HLE.out.mono ?_
  rintro e w1 ⟨rfl, hb1⟩
  have HB1 := Hid.mk (bl2 HB.out hb1)
  have HFR1 := Hid.mk (HFR.out.kept hb1)
  clear hb1 k0 k1 k2 k3 k4 k5 HB HFR
  obtain ⟨k0, k1, k2, k3, k4, k5⟩ := HFR1.out
  go_wp2_with fail
  refine (HFI.out _ HB1.out).mono ?_
  rintro e w2 ⟨rfl, hb2⟩
  have HB2 := Hid.mk (bl2 HB1.out hb2)
  have HFR2 := Hid.mk (HFR1.out.kept hb2)
  clear hb2 k0 k1 k2 k3 k4 k5 HB1 HFR1
  obtain ⟨k0, k1, k2, k3, k4, k5⟩ := HFR2.out
  go_wp2_with fail
  refine (HRG.out _ HB2.out).mono ?_
  rintro e w3 ⟨v3, rfl, hown3, hb3⟩
  obtain ⟨ar, cr, rfl, hR0⟩ := fils_of hown3
  rw [← HML.out] at hR0 ⊢
  have HR3 := Hid.mk hR0
  have HB3 := Hid.mk (bl2 HB2.out hb3)
  have HFR3 := Hid.mk (HFR2.out.kept hb3)
  clear hb3 k0 k1 k2 k3 k4 k5 hown3 hR0 HB2 HFR2
  obtain ⟨k0, k1, k2, k3, k4, k5⟩ := HFR3.out
  go_wp2_with fail
  go_ret
  exact ⟨rfl, HB3.out⟩
set_option maxHeartbeats 8000000 in
set_option maxRecDepth 100000 in
theorem fsA_fb (a : Option Addr) (n c : Nat) (l : List Fl) (id : Int) (lo fa re : Bool) (sz : Int) (fa0 : Option Addr) (len cap : Nat) (low high : Nat) (w : World) (hF : IsFils w a n c l) (hL : LastsAt w) (hS : SizesAt w) (hlen : len ≤ maxLen) (hE : chkFl l ≠ 0) (hG : frEn id lo fa re sz len ≠ 0) (h1 : low ≤ high) (h2 : high ≤ topN lo) (hM : (rngN lo high low).length ≤ 16) :
    Calls Tryd.prog 7 #[.slice a n c, frameV id lo fa re sz fa0 len cap, .int .i64 low, .int .i64 high] w fun e w' => e = .returned (.bool true) ∧ Below w.heap.size w w' := by
  have hb := below_box w id lo fa re sz fa0 len cap
  have HFR := Hid.mk (FrAt.box w id lo fa re sz fa0 len cap)
  have HB := Hid.mk hb
  have HFI := Hid.mk (fun W (hb : Below w.heap.size w W) => filtered_any W (hL.kept hb))
  have HLE := Hid.mk (least_bad a n c l _ (hF.kept hb) (hL.kept hb) hE)
  have he : (chkFl l == 0) = false := by simpa using hE
  have HRG := Hid.mk (fun W (hb : Below w.heap.size w W) => ranges_ok low high lo W (hL.kept hb) h1 h2)
  obtain ⟨M, hMl⟩ : ∃ M, M = (rngN lo high low).length := ⟨_, rfl⟩
  have HML := Hid.mk hMl
  rw [← hMl] at hM
  have hM' : (M : Int) ≤ 16 := by omega
  have hC3 := fun ar cr W (hR : IsFils W ar M cr ((rngN lo high low).map Fn.f)) (hb : Below w.heap.size w W) => count_ok ar M cr (rngN lo high low) lo W hR (hL.kept hb) (rngN_ok lo high low h2) hM
  rw [rngN_count lo high low h2] at hC3
  obtain ⟨C, hC⟩ : ∃ C, C = high + 1 - low := ⟨_, rfl⟩
  rw [← hC] at hC3
  have HCN3 := Hid.mk hC3
  have hCb : ((C : Int) != (high : Int) - (low : Int) + 1) = false := by rw [bne_eq_false_iff_eq]; omega
  have htl := topN_le lo
  have hlo1 : (low : Int) ≤ (high : Int) := by omega
  have hhi1 : (high : Int) ≤ 536870911 := by omega
  have HIN3 := Hid.mk (fun ar cr W (hR : IsFils W ar M cr ((rngN lo high low).map Fn.f)) (hb : Below w.heap.size w W) => in_frame ar M cr _ id lo fa re sz fa0 len cap W hR (hL.kept hb) (hS.kept hb) hlen (chk_ok (rngN_ok lo high low h2) (by omega)) hG)
  have hge : (frEn id lo fa re sz len != 0) = true := by simpa using hG
  have hge2 : (frEn id lo fa re sz len == 0) = false := by simpa using hG
  generalize chkFl l = ec at *
  generalize frEn id lo fa re sz len = eg at *
  clear hF hL hb hS hlen hE hG h1 h2 hMl hM hC3 hC htl
  obtain ⟨k0, k1, k2, k3, k4, k5⟩ := HFR.out
  unfold frameC at HB HFR HLE k0 k1 k2 k3 k4 k5
  unfold frameV at HIN3 ⊢
  go_enter Tryd.func7, Tryd.ntmps7
  go_wp2_with fail
  refine HLE.out.mono ?_
  rintro e w1 ⟨rfl, hb1⟩
  have HB1 := Hid.mk (bl2 HB.out hb1)
  have HFR1 := Hid.mk (HFR.out.kept hb1)
  clear hb1 k0 k1 k2 k3 k4 k5 HB HFR
  obtain ⟨k0, k1, k2, k3, k4, k5⟩ := HFR1.out
  go_wp2_with fail
  refine (HFI.out _ HB1.out).mono ?_
  rintro e w2 ⟨rfl, hb2⟩
  have HB2 := Hid.mk (bl2 HB1.out hb2)
  have HFR2 := Hid.mk (HFR1.out.kept hb2)
  clear hb2 k0 k1 k2 k3 k4 k5 HB1 HFR1
  obtain ⟨k0, k1, k2, k3, k4, k5⟩ := HFR2.out
  go_wp2_with fail
  refine (HRG.out _ HB2.out).mono ?_
  rintro e w3 ⟨v3, rfl, hown3, hb3⟩
  obtain ⟨ar, cr, rfl, hR0⟩ := fils_of hown3
  rw [← HML.out] at hR0 ⊢
  have HR3 := Hid.mk hR0
  have HB3 := Hid.mk (bl2 HB2.out hb3)
  have HFR3 := Hid.mk (HFR2.out.kept hb3)
  clear hb3 k0 k1 k2 k3 k4 k5 hown3 hR0 HB2 HFR2
  obtain ⟨k0, k1, k2, k3, k4, k5⟩ := HFR3.out
  go_wp2_with fail
  refine (HCN3.out ar cr _ HR3.out HB3.out).mono ?_
  rintro e w4 ⟨rfl, hb4⟩
  have HB4 := Hid.mk (bl2 HB3.out hb4)
  have HFR4 := Hid.mk (HFR3.out.kept hb4)
  have HR4 := Hid.mk (HR3.out.kept hb4)
  clear hb4 k0 k1 k2 k3 k4 k5 HB3 HFR3 HR3
  obtain ⟨k0, k1, k2, k3, k4, k5⟩ := HFR4.out
  go_wp2_with fail
  refine (HIN3.out ar cr _ HR4.out HB4.out).mono ?_
  rintro e w5 ⟨rfl, hb5⟩
  have HB5 := Hid.mk (bl2 HB4.out hb5)
  have HFR5 := Hid.mk (HFR4.out.kept hb5)
  have HR5 := Hid.mk (HR4.out.kept hb5)
  clear hb5 k0 k1 k2 k3 k4 k5 HB4 HFR4 HR4
  obtain ⟨k0, k1, k2, k3, k4, k5⟩ := HFR5.out
  go_wp2_with fail
  go_ret
  exact ⟨rfl, HB5.out⟩
set_option maxHeartbeats 8000000 in
set_option maxRecDepth 100000 in
theorem fsA_fl (a : Option Addr) (n c : Nat) (l : List Fl) (id : Nat) (lo fa re : Bool) (sz : Int) (fa0 : Option Addr) (len cap : Nat) (low high : Nat) (w : World) (hF : IsFils w a n c l) (hL : LastsAt w) (hS : SizesAt w) (hlen : len ≤ maxLen) (hE : chkFl l ≠ 0) (hG : frEn id lo fa re sz len = 0) (hid : id ≤ topN lo) (h1 : low ≤ high) (h2 : high ≤ topN lo) (hM : (rngN lo high low).length ≤ 16) (hp : id < low) :
    Calls Tryd.prog 7 #[.slice a n c, frameV id lo fa re sz fa0 len cap, .int .i64 low, .int .i64 high] w fun e w' => e = .returned (.bool true) ∧ Below w.heap.size w w' := by
  have hb := below_box w id lo fa re sz fa0 len cap
  have HFR := Hid.mk (FrAt.box w id lo fa re sz fa0 len cap)
  have HB := Hid.mk hb
  have HFI := Hid.mk (fun W (hb : Below w.heap.size w W) => filtered_any W (hL.kept hb))
  have HLE := Hid.mk (least_bad a n c l _ (hF.kept hb) (hL.kept hb) hE)
  have he : (chkFl l == 0) = false := by simpa using hE
  have HRG := Hid.mk (fun W (hb : Below w.heap.size w W) => ranges_ok low high lo W (hL.kept hb) h1 h2)
  obtain ⟨M, hMl⟩ : ∃ M, M = (rngN lo high low).length := ⟨_, rfl⟩
  have HML := Hid.mk hMl
  rw [← hMl] at hM
  have hM' : (M : Int) ≤ 16 := by omega
  have hC3 := fun ar cr W (hR : IsFils W ar M cr ((rngN lo high low).map Fn.f)) (hb : Below w.heap.size w W) => count_ok ar M cr (rngN lo high low) lo W hR (hL.kept hb) (rngN_ok lo high low h2) hM
  rw [rngN_count lo high low h2] at hC3
  obtain ⟨C, hC⟩ : ∃ C, C = high + 1 - low := ⟨_, rfl⟩
  rw [← hC] at hC3
  have HCN3 := Hid.mk hC3
  have hCb : ((C : Int) != (high : Int) - (low : Int) + 1) = false := by rw [bne_eq_false_iff_eq]; omega
  have htl := topN_le lo
  have hlo1 : (low : Int) ≤ (high : Int) := by omega
  have hhi1 : (high : Int) ≤ 536870911 := by omega
  have HIN3 := Hid.mk (fun ar cr W (hR : IsFils W ar M cr ((rngN lo high low).map Fn.f)) (hb : Below w.heap.size w W) => in_ok ar M cr (rngN lo high low) id lo fa re sz fa0 len cap W hR (hL.kept hb) (hS.kept hb) hlen (rngN_ok lo high low h2) hM hG hid)
  have HL3 : Hid ((inN (rngN lo high low) lo id).length = 0) := Hid.mk (by rw [in_count, rngN_hits lo high low id h2 hid, if_neg (by omega)])
  have hp' : (id : Int) < (low : Int) := by omega
  generalize chkFl l = ec at *
  clear hF hL hb hS hlen hE hG hid h1 h2 hMl hM hC3 hC htl hp
  obtain ⟨k0, k1, k2, k3, k4, k5⟩ := HFR.out
  unfold frameC at HB HFR HLE k0 k1 k2 k3 k4 k5
  unfold frameV at HIN3 ⊢
  go_enter Tryd.func7, Tryd.ntmps7
  go_wp2_with fail
  refine HLE.out.mono ?_
  rintro e w1 ⟨rfl, hb1⟩
  have HB1 := Hid.mk (bl2 HB.out hb1)
  have HFR1 := Hid.mk (HFR.out.kept hb1)
  clear hb1 k0 k1 k2 k3 k4 k5 HB HFR
  obtain ⟨k0, k1, k2, k3, k4, k5⟩ := HFR1.out
  go_wp2_with fail
  refine (HFI.out _ HB1.out).mono ?_
  rintro e w2 ⟨rfl, hb2⟩
  have HB2 := Hid.mk (bl2 HB1.out hb2)
  have HFR2 := Hid.mk (HFR1.out.kept hb2)
  clear hb2 k0 k1 k2 k3 k4 k5 HB1 HFR1
  obtain ⟨k0, k1, k2, k3, k4, k5⟩ := HFR2.out
  go_wp2_with fail
  refine (HRG.out _ HB2.out).mono ?_
  rintro e w3 ⟨v3, rfl, hown3, hb3⟩
  obtain ⟨ar, cr, rfl, hR0⟩ := fils_of hown3
  rw [← HML.out] at hR0 ⊢
  have HR3 := Hid.mk hR0
  have HB3 := Hid.mk (bl2 HB2.out hb3)
  have HFR3 := Hid.mk (HFR2.out.kept hb3)
  clear hb3 k0 k1 k2 k3 k4 k5 hown3 hR0 HB2 HFR2
  obtain ⟨k0, k1, k2, k3, k4, k5⟩ := HFR3.out
  go_wp2_with fail
  refine (HCN3.out ar cr _ HR3.out HB3.out).mono ?_
  rintro e w4 ⟨rfl, hb4⟩
  have HB4 := Hid.mk (bl2 HB3.out hb4)
  have HFR4 := Hid.mk (HFR3.out.kept hb4)
  have HR4 := Hid.mk (HR3.out.kept hb4)
  clear hb4 k0 k1 k2 k3 k4 k5 HB3 HFR3 HR3
  obtain ⟨k0, k1, k2, k3, k4, k5⟩ := HFR4.out
  go_wp2_with fail
  refine (HIN3.out ar cr _ HR4.out HB4.out).mono ?_
  rintro e w5 ⟨v4, rfl, hown4, hb5⟩
  obtain ⟨a4, c4, rfl, -⟩ := nums_of hown4
  rw [HL3.out]
  clear hown4
  have HB5 := Hid.mk (bl2 HB4.out hb5)
  have HFR5 := Hid.mk (HFR4.out.kept hb5)
  have HR5 := Hid.mk (HR4.out.kept hb5)
  clear hb5 k0 k1 k2 k3 k4 k5 HB4 HFR4 HR4
  obtain ⟨k0, k1, k2, k3, k4, k5⟩ := HFR5.out
  go_wp2_with fail
  go_ret
  exact ⟨rfl, HB5.out⟩
set_option maxHeartbeats 8000000 in
set_option maxRecDepth 100000 in
theorem fsA_fi (a : Option Addr) (n c : Nat) (l : List Fl) (id : Nat) (lo fa re : Bool) (sz : Int) (fa0 : Option Addr) (len cap : Nat) (low high : Nat) (w : World) (hF : IsFils w a n c l) (hL : LastsAt w) (hS : SizesAt w) (hlen : len ≤ maxLen) (hE : chkFl l ≠ 0) (hG : frEn id lo fa re sz len = 0) (hid : id ≤ topN lo) (h1 : low ≤ high) (h2 : high ≤ topN lo) (hM : (rngN lo high low).length ≤ 16) (hp : low ≤ id) (hp2 : id ≤ high) :
    Calls Tryd.prog 7 #[.slice a n c, frameV id lo fa re sz fa0 len cap, .int .i64 low, .int .i64 high] w fun e w' => e = .returned (.bool true) ∧ Below w.heap.size w w' := by
  have hb := below_box w id lo fa re sz fa0 len cap
  have HFR := Hid.mk (FrAt.box w id lo fa re sz fa0 len cap)
  have HB := Hid.mk hb
  have HFI := Hid.mk (fun W (hb : Below w.heap.size w W) => filtered_any W (hL.kept hb))
  have HLE := Hid.mk (least_bad a n c l _ (hF.kept hb) (hL.kept hb) hE)
  have he : (chkFl l == 0) = false := by simpa using hE
  have HRG := Hid.mk (fun W (hb : Below w.heap.size w W) => ranges_ok low high lo W (hL.kept hb) h1 h2)
  obtain ⟨M, hMl⟩ : ∃ M, M = (rngN lo high low).length := ⟨_, rfl⟩
  have HML := Hid.mk hMl
  rw [← hMl] at hM
  have hM' : (M : Int) ≤ 16 := by omega
  have hC3 := fun ar cr W (hR : IsFils W ar M cr ((rngN lo high low).map Fn.f)) (hb : Below w.heap.size w W) => count_ok ar M cr (rngN lo high low) lo W hR (hL.kept hb) (rngN_ok lo high low h2) hM
  rw [rngN_count lo high low h2] at hC3
  obtain ⟨C, hC⟩ : ∃ C, C = high + 1 - low := ⟨_, rfl⟩
  rw [← hC] at hC3
  have HCN3 := Hid.mk hC3
  have hCb : ((C : Int) != (high : Int) - (low : Int) + 1) = false := by rw [bne_eq_false_iff_eq]; omega
  have htl := topN_le lo
  have hlo1 : (low : Int) ≤ (high : Int) := by omega
  have hhi1 : (high : Int) ≤ 536870911 := by omega
  have HIN3 := Hid.mk (fun ar cr W (hR : IsFils W ar M cr ((rngN lo high low).map Fn.f)) (hb : Below w.heap.size w W) => in_ok ar M cr (rngN lo high low) id lo fa re sz fa0 len cap W hR (hL.kept hb) (hS.kept hb) hlen (rngN_ok lo high low h2) hM hG hid)
  have HL3 : Hid ((inN (rngN lo high low) lo id).length = 1) := Hid.mk (by rw [in_count, rngN_hits lo high low id h2 hid, if_pos ⟨hp, hp2⟩])
  have hp' : (low : Int) ≤ (id : Int) := by omega
  have hp2' : (id : Int) ≤ (high : Int) := by omega
  generalize chkFl l = ec at *
  clear hF hL hb hS hlen hE hG hid h1 h2 hMl hM hC3 hC htl hp hp2
  obtain ⟨k0, k1, k2, k3, k4, k5⟩ := HFR.out
  unfold frameC at HB HFR HLE k0 k1 k2 k3 k4 k5
  unfold frameV at HIN3 ⊢
  go_enter Tryd.func7, Tryd.ntmps7
  go_wp2_with fail
  refine HLE.out.mono ?_
  rintro e w1 ⟨rfl, hb1⟩
  have HB1 := Hid.mk (bl2 HB.out hb1)
  have HFR1 := Hid.mk (HFR.out.kept hb1)
  clear hb1 k0 k1 k2 k3 k4 k5 HB HFR
  obtain ⟨k0, k1, k2, k3, k4, k5⟩ := HFR1.out
  go_wp2_with fail
  refine (HFI.out _ HB1.out).mono ?_
  rintro e w2 ⟨rfl, hb2⟩
  have HB2 := Hid.mk (bl2 HB1.out hb2)
  have HFR2 := Hid.mk (HFR1.out.kept hb2)
  clear hb2 k0 k1 k2 k3 k4 k5 HB1 HFR1
  obtain ⟨k0, k1, k2, k3, k4, k5⟩ := HFR2.out
  go_wp2_with fail
  refine (HRG.out _ HB2.out).mono ?_
  rintro e w3 ⟨v3, rfl, hown3, hb3⟩
  obtain ⟨ar, cr, rfl, hR0⟩ := fils_of hown3
  rw [← HML.out] at hR0 ⊢
  have HR3 := Hid.mk hR0
  have HB3 := Hid.mk (bl2 HB2.out hb3)
  have HFR3 := Hid.mk (HFR2.out.kept hb3)
  clear hb3 k0 k1 k2 k3 k4 k5 hown3 hR0 HB2 HFR2
  obtain ⟨k0, k1, k2, k3, k4, k5⟩ := HFR3.out
  go_wp2_with fail
  refine (HCN3.out ar cr _ HR3.out HB3.out).mono ?_
  rintro e w4 ⟨rfl, hb4⟩
  have HB4 := Hid.mk (bl2 HB3.out hb4)
  have HFR4 := Hid.mk (HFR3.out.kept hb4)
  have HR4 := Hid.mk (HR3.out.kept hb4)
  clear hb4 k0 k1 k2 k3 k4 k5 HB3 HFR3 HR3
  obtain ⟨k0, k1, k2, k3, k4, k5⟩ := HFR4.out
  go_wp2_with fail
  refine (HIN3.out ar cr _ HR4.out HB4.out).mono ?_
  rintro e w5 ⟨v4, rfl, hown4, hb5⟩
  obtain ⟨a4, c4, rfl, -⟩ := nums_of hown4
  rw [HL3.out]
  clear hown4
  have HB5 := Hid.mk (bl2 HB4.out hb5)
  have HFR5 := Hid.mk (HFR4.out.kept hb5)
  have HR5 := Hid.mk (HR4.out.kept hb5)
  clear hb5 k0 k1 k2 k3 k4 k5 HB4 HFR4 HR4
  obtain ⟨k0, k1, k2, k3, k4, k5⟩ := HFR5.out
  go_wp2_with fail
  go_ret
  exact ⟨rfl, HB5.out⟩
set_option maxHeartbeats 8000000 in
set_option maxRecDepth 100000 in
theorem fsA_fh (a : Option Addr) (n c : Nat) (l : List Fl) (id : Nat) (lo fa re : Bool) (sz : Int) (fa0 : Option Addr) (len cap : Nat) (low high : Nat) (w : World) (hF : IsFils w a n c l) (hL : LastsAt w) (hS : SizesAt w) (hlen : len ≤ maxLen) (hE : chkFl l ≠ 0) (hG : frEn id lo fa re sz len = 0) (hid : id ≤ topN lo) (h1 : low ≤ high) (h2 : high ≤ topN lo) (hM : (rngN lo high low).length ≤ 16) (hp : high < id) :
    Calls Tryd.prog 7 #[.slice a n c, frameV id lo fa re sz fa0 len cap, .int .i64 low, .int .i64 high] w fun e w' => e = .returned (.bool true) ∧ Below w.heap.size w w' := by
  have hb := below_box w id lo fa re sz fa0 len cap
  have HFR := Hid.mk (FrAt.box w id lo fa re sz fa0 len cap)
  have HB := Hid.mk hb
  have HFI := Hid.mk (fun W (hb : Below w.heap.size w W) => filtered_any W (hL.kept hb))
  have HLE := Hid.mk (least_bad a n c l _ (hF.kept hb) (hL.kept hb) hE)
  have he : (chkFl l == 0) = false := by simpa using hE
  have HRG := Hid.mk (fun W (hb : Below w.heap.size w W) => ranges_ok low high lo W (hL.kept hb) h1 h2)
  obtain ⟨M, hMl⟩ : ∃ M, M = (rngN lo high low).length := ⟨_, rfl⟩
  have HML := Hid.mk hMl
  rw [← hMl] at hM
  have hM' : (M : Int) ≤ 16 := by omega
  have hC3 := fun ar cr W (hR : IsFils W ar M cr ((rngN lo high low).map Fn.f)) (hb : Below w.heap.size w W) => count_ok ar M cr (rngN lo high low) lo W hR (hL.kept hb) (rngN_ok lo high low h2) hM
  rw [rngN_count lo high low h2] at hC3
  obtain ⟨C, hC⟩ : ∃ C, C = high + 1 - low := ⟨_, rfl⟩
  rw [← hC] at hC3
  have HCN3 := Hid.mk hC3
  have hCb : ((C : Int) != (high : Int) - (low : Int) + 1) = false := by rw [bne_eq_false_iff_eq]; omega
  have htl := topN_le lo
  have hlo1 : (low : Int) ≤ (high : Int) := by omega
  have hhi1 : (high : Int) ≤ 536870911 := by omega
  have HIN3 := Hid.mk (fun ar cr W (hR : IsFils W ar M cr ((rngN lo high low).map Fn.f)) (hb : Below w.heap.size w W) => in_ok ar M cr (rngN lo high low) id lo fa re sz fa0 len cap W hR (hL.kept hb) (hS.kept hb) hlen (rngN_ok lo high low h2) hM hG hid)
  have HL3 : Hid ((inN (rngN lo high low) lo id).length = 0) := Hid.mk (by rw [in_count, rngN_hits lo high low id h2 hid, if_neg (by omega)])
  have hp' : (high : Int) < (id : Int) := by omega
  have hp2' : (low : Int) ≤ (id : Int) := by omega
  have hp3 : decide ((id : Int) ≤ (high : Int)) = false := by simp; omega
  have hp4 : decide (id ≤ high) = false := by simp; omega
  generalize chkFl l = ec at *
  clear hF hL hb hS hlen hE hG hid h1 h2 hMl hM hC3 hC htl hp
  obtain ⟨k0, k1, k2, k3, k4, k5⟩ := HFR.out
  unfold frameC at HB HFR HLE k0 k1 k2 k3 k4 k5
  unfold frameV at HIN3 ⊢
  go_enter Tryd.func7, Tryd.ntmps7
  go_wp2_with fail
  refine HLE.out.mono ?_
  rintro e w1 ⟨rfl, hb1⟩
  have HB1 := Hid.mk (bl2 HB.out hb1)
  have HFR1 := Hid.mk (HFR.out.kept hb1)
  clear hb1 k0 k1 k2 k3 k4 k5 HB HFR
  obtain ⟨k0, k1, k2, k3, k4, k5⟩ := HFR1.out
  go_wp2_with fail
  refine (HFI.out _ HB1.out).mono ?_
  rintro e w2 ⟨rfl, hb2⟩
  have HB2 := Hid.mk (bl2 HB1.out hb2)
  have HFR2 := Hid.mk (HFR1.out.kept hb2)
  clear hb2 k0 k1 k2 k3 k4 k5 HB1 HFR1
  obtain ⟨k0, k1, k2, k3, k4, k5⟩ := HFR2.out
  go_wp2_with fail
  refine (HRG.out _ HB2.out).mono ?_
  rintro e w3 ⟨v3, rfl, hown3, hb3⟩
  obtain ⟨ar, cr, rfl, hR0⟩ := fils_of hown3
  rw [← HML.out] at hR0 ⊢
  have HR3 := Hid.mk hR0
  have HB3 := Hid.mk (bl2 HB2.out hb3)
  have HFR3 := Hid.mk (HFR2.out.kept hb3)
  clear hb3 k0 k1 k2 k3 k4 k5 hown3 hR0 HB2 HFR2
  obtain ⟨k0, k1, k2, k3, k4, k5⟩ := HFR3.out
  go_wp2_with fail
  refine (HCN3.out ar cr _ HR3.out HB3.out).mono ?_
  rintro e w4 ⟨rfl, hb4⟩
  have HB4 := Hid.mk (bl2 HB3.out hb4)
  have HFR4 := Hid.mk (HFR3.out.kept hb4)
  have HR4 := Hid.mk (HR3.out.kept hb4)
  clear hb4 k0 k1 k2 k3 k4 k5 HB3 HFR3 HR3
  obtain ⟨k0, k1, k2, k3, k4, k5⟩ := HFR4.out
  go_wp2_with fail
  refine (HIN3.out ar cr _ HR4.out HB4.out).mono ?_
  rintro e w5 ⟨v4, rfl, hown4, hb5⟩
  obtain ⟨a4, c4, rfl, -⟩ := nums_of hown4
  rw [HL3.out]
  clear hown4
  have HB5 := Hid.mk (bl2 HB4.out hb5)
  have HFR5 := Hid.mk (HFR4.out.kept hb5)
  have HR5 := Hid.mk (HR4.out.kept hb5)
  clear hb5 k0 k1 k2 k3 k4 k5 HB4 HFR4 HR4
  obtain ⟨k0, k1, k2, k3, k4, k5⟩ := HFR5.out
  go_wp2_with fail
  go_ret
  exact ⟨rfl, HB5.out⟩
end Bw
end Go.Proofs.YtfmjhgggoklaoaaDoor
