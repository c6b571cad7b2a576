/- The law FilterSame: its walk, right filters, a right frame that one lets in. -/
import Derived.Test.YtfmjhgggoklaoaaDoorFinLaw
namespace Go.Proofs.YtfmjhgggoklaoaaDoor
open Go.ChangeShapes Go.WideShapes Go.ChangeAt Go.RowKit
namespace Bw
open Bm Cm
set_option maxHeartbeats 8000000 in
set_option maxRecDepth 100000 in
theorem fsC_e (a : Option Addr) (n c : Nat) (l : List Fn) (id : Nat) (lo fa re : Bool) (sz : Int) (fa0 : Option Addr) (len cap : Nat) (low high : Int) (w : World) (hF : IsFils w a n c (l.map Fn.f)) (hL : LastsAt w) (hS : SizesAt w) (hlen : len ≤ maxLen) (hok : ∀ x ∈ l, okN x) (hn : n ≤ 16) (hG : frEn id lo fa re sz len = 0) (hid : id ≤ topN lo) (hany : anyN l lo id = true) (hr : ¬ (0 ≤ low ∧ low ≤ high ∧ high ≤ (topN lo : Int))) :
    Calls Tryd.prog 7 #[.slice a n c, frameV id lo fa re sz fa0 len cap, .int .i64 low, .int .i64 high] w fun e w' => e = .returned (.bool true) ∧ Below w.heap.size w w' := by
  have hb := below_box w id lo fa re sz fa0 len cap
  have HFR := Hid.mk (FrAt.box w id lo fa re sz fa0 len cap)
  have HB := Hid.mk hb
  have HFI := Hid.mk (fun W (hb : Below w.heap.size w W) => filtered_any W (hL.kept hb))
  have hln : l.length = n := by have := hF.len; simpa using this
  have HLE := Hid.mk (least_okP a n c l _ (hF.kept hb) (hL.kept hb) hok hn)
  obtain ⟨N, hN⟩ : ∃ N, N = (leastN l).length := ⟨_, rfl⟩
  have hN16 : N ≤ 16 := by
    have := leastK_len l l.length
    rw [hN]
    unfold leastN
    omega
  have HN := Hid.mk hN
  have HCN1 := Hid.mk (fun W (hb : Below w.heap.size w W) => count_ok a n c l true W (hF.kept hb) (hL.kept hb) hok hn)
  have hC2 := fun am cm W (hM : IsFils W am N cm ((leastN l).map Fn.f)) (hb : Below w.heap.size w W) => count_ok am N cm (leastN l) true W hM (hL.kept hb) (least_ok hok) hN16
  rw [least_count] at hC2
  have HCN2 := Hid.mk hC2
  clear hC2
  obtain ⟨X, hX⟩ : ∃ X, X = countN l true := ⟨_, rfl⟩
  rw [← hX] at HCN1 HCN2
  clear hX
  have HIN1 := Hid.mk (fun W (hb : Below w.heap.size w W) => in_ok a n c l id lo fa re sz fa0 len cap W (hF.kept hb) (hL.kept hb) (hS.kept hb) hlen hok hn hG hid)
  have HIN2 := Hid.mk (fun am cm W (hM : IsFils W am N cm ((leastN l).map Fn.f)) (hb : Below w.heap.size w W) => in_ok am N cm (leastN l) id lo fa re sz fa0 len cap W hM (hL.kept hb) (hS.kept hb) hlen (least_ok hok) hN16 hG hid)
  have g1 := in_any l lo id
  have g2 := in_any (leastN l) lo id
  rw [least_any] at g2
  rw [hany] at g1 g2
  simp only [decide_eq_true_eq] at g1 g2
  obtain ⟨N1, hN1⟩ : ∃ N1, N1 = (inN l lo id).length := ⟨_, rfl⟩
  obtain ⟨N2, hN2⟩ : ∃ N2, N2 = (inN (leastN l) lo id).length := ⟨_, rfl⟩
  rw [← hN1] at g1
  rw [← hN2] at g2
  have g1' : (0 : Int) < (N1 : Int) := by omega
  have g2' : (0 : Int) < (N2 : Int) := by omega
  have g3 : decide ((0 : Int) < (N1 : Int)) = true := by simp; omega
  have g4 : decide ((0 : Int) < (N2 : Int)) = true := by simp; omega
  have g5 : decide (0 < N1) = true := by simp; omega
  have g6 : decide (0 < N2) = true := by simp; omega
  have HN1 := Hid.mk hN1.symm
  have HN2 := Hid.mk hN2.symm
  clear hN1 hN2
  have HRG := Hid.mk (fun W (hb : Below w.heap.size w W) => ranges_bad low high lo W (hL.kept hb) hr)
  clear hF hL hb hS hlen hok hn hln hN hG hid hany g1 g2 hr hN16
  obtain ⟨k0, k1, k2, k3, k4, k5⟩ := HFR.out
  unfold frameC at HB HFR HLE k0 k1 k2 k3 k4 k5
  unfold frameV at HIN1 HIN2 ⊢
  go_enter Tryd.func7, Tryd.ntmps7
  go_wp2_with fail
  refine HLE.out.mono ?_
  rintro e w1 ⟨v, rfl, hown, hb1⟩
  obtain ⟨am, cm, rfl, hM0⟩ := fils_of hown
  rw [← HN.out] at hM0 ⊢
  have HM1 := Hid.mk hM0
  have HB1 := Hid.mk (bl2 HB.out hb1)
  have HFR1 := Hid.mk (HFR.out.kept hb1)
  clear hb1 k0 k1 k2 k3 k4 k5 HB HFR hown hM0
  obtain ⟨k0, k1, k2, k3, k4, k5⟩ := HFR1.out
  go_wp2_with fail
  refine (HFI.out _ HB1.out).mono ?_
  rintro e w2 ⟨rfl, hb2⟩
  have HB2 := Hid.mk (bl2 HB1.out hb2)
  have HFR2 := Hid.mk (HFR1.out.kept hb2)
  have HM2 := Hid.mk (HM1.out.kept hb2)
  clear hb2 k0 k1 k2 k3 k4 k5 HB1 HFR1 HM1
  obtain ⟨k0, k1, k2, k3, k4, k5⟩ := HFR2.out
  go_wp2_with fail
  refine (HIN1.out _ HB2.out).mono ?_
  rintro e w3 ⟨v1, rfl, hown1, hb3⟩
  obtain ⟨a1, c1, rfl, -⟩ := nums_of hown1
  rw [HN1.out]
  clear hown1
  have HB3 := Hid.mk (bl2 HB2.out hb3)
  have HFR3 := Hid.mk (HFR2.out.kept hb3)
  have HM3 := Hid.mk (HM2.out.kept hb3)
  clear hb3 k0 k1 k2 k3 k4 k5 HB2 HFR2 HM2
  obtain ⟨k0, k1, k2, k3, k4, k5⟩ := HFR3.out
  go_wp2_with fail
  refine (HIN2.out am cm _ HM3.out HB3.out).mono ?_
  rintro e w4 ⟨v2, rfl, hown2, hb4⟩
  obtain ⟨a2, c2, rfl, -⟩ := nums_of hown2
  rw [HN2.out]
  clear hown2
  have HB4 := Hid.mk (bl2 HB3.out hb4)
  have HFR4 := Hid.mk (HFR3.out.kept hb4)
  have HM4 := Hid.mk (HM3.out.kept hb4)
  clear hb4 k0 k1 k2 k3 k4 k5 HB3 HFR3 HM3
  obtain ⟨k0, k1, k2, k3, k4, k5⟩ := HFR4.out
  go_wp2_with fail
  refine (HCN1.out _ HB4.out).mono ?_
  rintro e w5 ⟨rfl, hb5⟩
  have HB5 := Hid.mk (bl2 HB4.out hb5)
  have HFR5 := Hid.mk (HFR4.out.kept hb5)
  have HM5 := Hid.mk (HM4.out.kept hb5)
  clear hb5 k0 k1 k2 k3 k4 k5 HB4 HFR4 HM4
  obtain ⟨k0, k1, k2, k3, k4, k5⟩ := HFR5.out
  go_wp2_with fail
  refine (HCN2.out am cm _ HM5.out HB5.out).mono ?_
  rintro e w6 ⟨rfl, hb6⟩
  have HB6 := Hid.mk (bl2 HB5.out hb6)
  have HFR6 := Hid.mk (HFR5.out.kept hb6)
  have HM6 := Hid.mk (HM5.out.kept hb6)
  clear hb6 k0 k1 k2 k3 k4 k5 HB5 HFR5 HM5
  obtain ⟨k0, k1, k2, k3, k4, k5⟩ := HFR6.out
  go_wp2_with fail
  refine (HRG.out _ HB6.out).mono ?_
  rintro e w7 ⟨rfl, hb7⟩
  have HB7 := Hid.mk (bl2 HB6.out hb7)
  have HFR7 := Hid.mk (HFR6.out.kept hb7)
  have HM7 := Hid.mk (HM6.out.kept hb7)
  clear hb7 k0 k1 k2 k3 k4 k5 HB6 HFR6 HM6
  obtain ⟨k0, k1, k2, k3, k4, k5⟩ := HFR7.out
  go_wp2_with fail
  go_ret
  exact ⟨rfl, HB7.out⟩
set_option maxHeartbeats 8000000 in
set_option maxRecDepth 100000 in
theorem fsC_m (a : Option Addr) (n c : Nat) (l : List Fn) (id : Nat) (lo fa re : Bool) (sz : Int) (fa0 : Option Addr) (len cap : Nat) (low high : Nat) (w : World) (hF : IsFils w a n c (l.map Fn.f)) (hL : LastsAt w) (hS : SizesAt w) (hlen : len ≤ maxLen) (hok : ∀ x ∈ l, okN x) (hn : n ≤ 16) (hG : frEn id lo fa re sz len = 0) (hid : id ≤ topN lo) (hany : anyN l lo id = true) (h1 : low ≤ high) (h2 : high ≤ topN lo) (hM : 16 < (rngN lo high low).length) :
    Calls Tryd.prog 7 #[.slice a n c, frameV id lo fa re sz fa0 len cap, .int .i64 low, .int .i64 high] w fun e w' => e = .returned (.bool true) ∧ Below w.heap.size w w' := by
  have hb := below_box w id lo fa re sz fa0 len cap
  have HFR := Hid.mk (FrAt.box w id lo fa re sz fa0 len cap)
  have HB := Hid.mk hb
  have HFI := Hid.mk (fun W (hb : Below w.heap.size w W) => filtered_any W (hL.kept hb))
  have hln : l.length = n := by have := hF.len; simpa using this
  have HLE := Hid.mk (least_okP a n c l _ (hF.kept hb) (hL.kept hb) hok hn)
  obtain ⟨N, hN⟩ : ∃ N, N = (leastN l).length := ⟨_, rfl⟩
  have hN16 : N ≤ 16 := by
    have := leastK_len l l.length
    rw [hN]
    unfold leastN
    omega
  have HN := Hid.mk hN
  have HCN1 := Hid.mk (fun W (hb : Below w.heap.size w W) => count_ok a n c l true W (hF.kept hb) (hL.kept hb) hok hn)
  have hC2 := fun am cm W (hM : IsFils W am N cm ((leastN l).map Fn.f)) (hb : Below w.heap.size w W) => count_ok am N cm (leastN l) true W hM (hL.kept hb) (least_ok hok) hN16
  rw [least_count] at hC2
  have HCN2 := Hid.mk hC2
  clear hC2
  obtain ⟨X, hX⟩ : ∃ X, X = countN l true := ⟨_, rfl⟩
  rw [← hX] at HCN1 HCN2
  clear hX
  have HIN1 := Hid.mk (fun W (hb : Below w.heap.size w W) => in_ok a n c l id lo fa re sz fa0 len cap W (hF.kept hb) (hL.kept hb) (hS.kept hb) hlen hok hn hG hid)
  have HIN2 := Hid.mk (fun am cm W (hM : IsFils W am N cm ((leastN l).map Fn.f)) (hb : Below w.heap.size w W) => in_ok am N cm (leastN l) id lo fa re sz fa0 len cap W hM (hL.kept hb) (hS.kept hb) hlen (least_ok hok) hN16 hG hid)
  have g1 := in_any l lo id
  have g2 := in_any (leastN l) lo id
  rw [least_any] at g2
  rw [hany] at g1 g2
  simp only [decide_eq_true_eq] at g1 g2
  obtain ⟨N1, hN1⟩ : ∃ N1, N1 = (inN l lo id).length := ⟨_, rfl⟩
  obtain ⟨N2, hN2⟩ : ∃ N2, N2 = (inN (leastN l) lo id).length := ⟨_, rfl⟩
  rw [← hN1] at g1
  rw [← hN2] at g2
  have g1' : (0 : Int) < (N1 : Int) := by omega
  have g2' : (0 : Int) < (N2 : Int) := by omega
  have g3 : decide ((0 : Int) < (N1 : Int)) = true := by simp; omega
  have g4 : decide ((0 : Int) < (N2 : Int)) = true := by simp; omega
  have g5 : decide (0 < N1) = true := by simp; omega
  have g6 : decide (0 < N2) = true := by simp; omega
  have HN1 := Hid.mk hN1.symm
  have HN2 := Hid.mk hN2.symm
  clear hN1 hN2
  have HRG := Hid.mk (fun W (hb : Below w.heap.size w W) => ranges_ok low high lo W (hL.kept hb) h1 h2)
  obtain ⟨M, hMl⟩ : ∃ M, M = (rngN lo high low).length := ⟨_, rfl⟩
  have HML := Hid.mk hMl
  rw [← hMl] at hM
  have hM' : (16 : Int) < (M : Int) := by omega
  clear hF hL hb hS hlen hok hn hln hN hG hid hany g1 g2 h1 h2 hMl hM hN16
  obtain ⟨k0, k1, k2, k3, k4, k5⟩ := HFR.out
  unfold frameC at HB HFR HLE k0 k1 k2 k3 k4 k5
  unfold frameV at HIN1 HIN2 ⊢
  go_enter Tryd.func7, Tryd.ntmps7
  go_wp2_with fail
  refine HLE.out.mono ?_
  rintro e w1 ⟨v, rfl, hown, hb1⟩
  obtain ⟨am, cm, rfl, hM0⟩ := fils_of hown
  rw [← HN.out] at hM0 ⊢
  have HM1 := Hid.mk hM0
  have HB1 := Hid.mk (bl2 HB.out hb1)
  have HFR1 := Hid.mk (HFR.out.kept hb1)
  clear hb1 k0 k1 k2 k3 k4 k5 HB HFR hown hM0
  obtain ⟨k0, k1, k2, k3, k4, k5⟩ := HFR1.out
  go_wp2_with fail
  refine (HFI.out _ HB1.out).mono ?_
  rintro e w2 ⟨rfl, hb2⟩
  have HB2 := Hid.mk (bl2 HB1.out hb2)
  have HFR2 := Hid.mk (HFR1.out.kept hb2)
  have HM2 := Hid.mk (HM1.out.kept hb2)
  clear hb2 k0 k1 k2 k3 k4 k5 HB1 HFR1 HM1
  obtain ⟨k0, k1, k2, k3, k4, k5⟩ := HFR2.out
  go_wp2_with fail
  refine (HIN1.out _ HB2.out).mono ?_
  rintro e w3 ⟨v1, rfl, hown1, hb3⟩
  obtain ⟨a1, c1, rfl, -⟩ := nums_of hown1
  rw [HN1.out]
  clear hown1
  have HB3 := Hid.mk (bl2 HB2.out hb3)
  have HFR3 := Hid.mk (HFR2.out.kept hb3)
  have HM3 := Hid.mk (HM2.out.kept hb3)
  clear hb3 k0 k1 k2 k3 k4 k5 HB2 HFR2 HM2
  obtain ⟨k0, k1, k2, k3, k4, k5⟩ := HFR3.out
  go_wp2_with fail
  refine (HIN2.out am cm _ HM3.out HB3.out).mono ?_
  rintro e w4 ⟨v2, rfl, hown2, hb4⟩
  obtain ⟨a2, c2, rfl, -⟩ := nums_of hown2
  rw [HN2.out]
  clear hown2
  have HB4 := Hid.mk (bl2 HB3.out hb4)
  have HFR4 := Hid.mk (HFR3.out.kept hb4)
  have HM4 := Hid.mk (HM3.out.kept hb4)
  clear hb4 k0 k1 k2 k3 k4 k5 HB3 HFR3 HM3
  obtain ⟨k0, k1, k2, k3, k4, k5⟩ := HFR4.out
  go_wp2_with fail
  refine (HCN1.out _ HB4.out).mono ?_
  rintro e w5 ⟨rfl, hb5⟩
  have HB5 := Hid.mk (bl2 HB4.out hb5)
  have HFR5 := Hid.mk (HFR4.out.kept hb5)
  have HM5 := Hid.mk (HM4.out.kept hb5)
  clear hb5 k0 k1 k2 k3 k4 k5 HB4 HFR4 HM4
  obtain ⟨k0, k1, k2, k3, k4, k5⟩ := HFR5.out
  go_wp2_with fail
  refine (HCN2.out am cm _ HM5.out HB5.out).mono ?_
  rintro e w6 ⟨rfl, hb6⟩
  have HB6 := Hid.mk (bl2 HB5.out hb6)
  have HFR6 := Hid.mk (HFR5.out.kept hb6)
  have HM6 := Hid.mk (HM5.out.kept hb6)
  clear hb6 k0 k1 k2 k3 k4 k5 HB5 HFR5 HM5
  obtain ⟨k0, k1, k2, k3, k4, k5⟩ := HFR6.out
  go_wp2_with fail
  refine (HRG.out _ HB6.out).mono ?_
  rintro e w7 ⟨v3, rfl, hown3, hb7⟩
  obtain ⟨ar, cr, rfl, hR0⟩ := fils_of hown3
  rw [← HML.out] at hR0 ⊢
  have HR7 := Hid.mk hR0
  have HB7 := Hid.mk (bl2 HB6.out hb7)
  have HFR7 := Hid.mk (HFR6.out.kept hb7)
  clear hb7 k0 k1 k2 k3 k4 k5 hown3 hR0 HB6 HFR6
  obtain ⟨k0, k1, k2, k3, k4, k5⟩ := HFR7.out
  go_wp2_with fail
  go_ret
  exact ⟨rfl, HB7.out⟩
set_option maxHeartbeats 8000000 in
set_option maxRecDepth 100000 in
theorem fsC_fl (a : Option Addr) (n c : Nat) (l : List Fn) (id : Nat) (lo fa re : Bool) (sz : Int) (fa0 : Option Addr) (len cap : Nat) (low high : Nat) (w : World) (hF : IsFils w a n c (l.map Fn.f)) (hL : LastsAt w) (hS : SizesAt w) (hlen : len ≤ maxLen) (hok : ∀ x ∈ l, okN x) (hn : n ≤ 16) (hG : frEn id lo fa re sz len = 0) (hid : id ≤ topN lo) (hany : anyN l lo id = true) (h1 : low ≤ high) (h2 : high ≤ topN lo) (hM : (rngN lo high low).length ≤ 16) (hp : id < low) :
    Calls Tryd.prog 7 #[.slice a n c, frameV id lo fa re sz fa0 len cap, .int .i64 low, .int .i64 high] w fun e w' => e = .returned (.bool true) ∧ Below w.heap.size w w' := by
  have hb := below_box w id lo fa re sz fa0 len cap
  have HFR := Hid.mk (FrAt.box w id lo fa re sz fa0 len cap)
  have HB := Hid.mk hb
  have HFI := Hid.mk (fun W (hb : Below w.heap.size w W) => filtered_any W (hL.kept hb))
  have hln : l.length = n := by have := hF.len; simpa using this
  have HLE := Hid.mk (least_okP a n c l _ (hF.kept hb) (hL.kept hb) hok hn)
  obtain ⟨N, hN⟩ : ∃ N, N = (leastN l).length := ⟨_, rfl⟩
  have hN16 : N ≤ 16 := by
    have := leastK_len l l.length
    rw [hN]
    unfold leastN
    omega
  have HN := Hid.mk hN
  have HCN1 := Hid.mk (fun W (hb : Below w.heap.size w W) => count_ok a n c l true W (hF.kept hb) (hL.kept hb) hok hn)
  have hC2 := fun am cm W (hM : IsFils W am N cm ((leastN l).map Fn.f)) (hb : Below w.heap.size w W) => count_ok am N cm (leastN l) true W hM (hL.kept hb) (least_ok hok) hN16
  rw [least_count] at hC2
  have HCN2 := Hid.mk hC2
  clear hC2
  obtain ⟨X, hX⟩ : ∃ X, X = countN l true := ⟨_, rfl⟩
  rw [← hX] at HCN1 HCN2
  clear hX
  have HIN1 := Hid.mk (fun W (hb : Below w.heap.size w W) => in_ok a n c l id lo fa re sz fa0 len cap W (hF.kept hb) (hL.kept hb) (hS.kept hb) hlen hok hn hG hid)
  have HIN2 := Hid.mk (fun am cm W (hM : IsFils W am N cm ((leastN l).map Fn.f)) (hb : Below w.heap.size w W) => in_ok am N cm (leastN l) id lo fa re sz fa0 len cap W hM (hL.kept hb) (hS.kept hb) hlen (least_ok hok) hN16 hG hid)
  have g1 := in_any l lo id
  have g2 := in_any (leastN l) lo id
  rw [least_any] at g2
  rw [hany] at g1 g2
  simp only [decide_eq_true_eq] at g1 g2
  obtain ⟨N1, hN1⟩ : ∃ N1, N1 = (inN l lo id).length := ⟨_, rfl⟩
  obtain ⟨N2, hN2⟩ : ∃ N2, N2 = (inN (leastN l) lo id).length := ⟨_, rfl⟩
  rw [← hN1] at g1
  rw [← hN2] at g2
  have g1' : (0 : Int) < (N1 : Int) := by omega
  have g2' : (0 : Int) < (N2 : Int) := by omega
  have g3 : decide ((0 : Int) < (N1 : Int)) = true := by simp; omega
  have g4 : decide ((0 : Int) < (N2 : Int)) = true := by simp; omega
  have g5 : decide (0 < N1) = true := by simp; omega
  have g6 : decide (0 < N2) = true := by simp; omega
  have HN1 := Hid.mk hN1.symm
  have HN2 := Hid.mk hN2.symm
  clear hN1 hN2
  have HRG := Hid.mk (fun W (hb : Below w.heap.size w W) => ranges_ok low high lo W (hL.kept hb) h1 h2)
  obtain ⟨M, hMl⟩ : ∃ M, M = (rngN lo high low).length := ⟨_, rfl⟩
  have HML := Hid.mk hMl
  rw [← hMl] at hM
  have hM' : (M : Int) ≤ 16 := by omega
  have hC3 := fun ar cr W (hR : IsFils W ar M cr ((rngN lo high low).map Fn.f)) (hb : Below w.heap.size w W) => count_ok ar M cr (rngN lo high low) lo W hR (hL.kept hb) (rngN_ok lo high low h2) hM
  rw [rngN_count lo high low h2] at hC3
  obtain ⟨C, hC⟩ : ∃ C, C = high + 1 - low := ⟨_, rfl⟩
  rw [← hC] at hC3
  have HCN3 := Hid.mk hC3
  have hCb : ((C : Int) != (high : Int) - (low : Int) + 1) = false := by rw [bne_eq_false_iff_eq]; omega
  have htl := topN_le lo
  have hlo1 : (low : Int) ≤ (high : Int) := by omega
  have hhi1 : (high : Int) ≤ 536870911 := by omega
  have HIN3 := Hid.mk (fun ar cr W (hR : IsFils W ar M cr ((rngN lo high low).map Fn.f)) (hb : Below w.heap.size w W) => in_ok ar M cr (rngN lo high low) id lo fa re sz fa0 len cap W hR (hL.kept hb) (hS.kept hb) hlen (rngN_ok lo high low h2) hM hG hid)
  have HL3 : Hid ((inN (rngN lo high low) lo id).length = 0) := Hid.mk (by rw [in_count, rngN_hits lo high low id h2 hid, if_neg (by omega)])
  have hp' : (id : Int) < (low : Int) := by omega
  clear hF hL hb hS hlen hok hn hln hN hG hid hany g1 g2 h1 h2 hMl hM hC3 hC htl hp hN16
  obtain ⟨k0, k1, k2, k3, k4, k5⟩ := HFR.out
  unfold frameC at HB HFR HLE k0 k1 k2 k3 k4 k5
  unfold frameV at HIN1 HIN2 HIN3 ⊢
  go_enter Tryd.func7, Tryd.ntmps7
  go_wp2_with fail
  refine HLE.out.mono ?_
  rintro e w1 ⟨v, rfl, hown, hb1⟩
  obtain ⟨am, cm, rfl, hM0⟩ := fils_of hown
  rw [← HN.out] at hM0 ⊢
  have HM1 := Hid.mk hM0
  have HB1 := Hid.mk (bl2 HB.out hb1)
  have HFR1 := Hid.mk (HFR.out.kept hb1)
  clear hb1 k0 k1 k2 k3 k4 k5 HB HFR hown hM0
  obtain ⟨k0, k1, k2, k3, k4, k5⟩ := HFR1.out
  go_wp2_with fail
  refine (HFI.out _ HB1.out).mono ?_
  rintro e w2 ⟨rfl, hb2⟩
  have HB2 := Hid.mk (bl2 HB1.out hb2)
  have HFR2 := Hid.mk (HFR1.out.kept hb2)
  have HM2 := Hid.mk (HM1.out.kept hb2)
  clear hb2 k0 k1 k2 k3 k4 k5 HB1 HFR1 HM1
  obtain ⟨k0, k1, k2, k3, k4, k5⟩ := HFR2.out
  go_wp2_with fail
  refine (HIN1.out _ HB2.out).mono ?_
  rintro e w3 ⟨v1, rfl, hown1, hb3⟩
  obtain ⟨a1, c1, rfl, -⟩ := nums_of hown1
  rw [HN1.out]
  clear hown1
  have HB3 := Hid.mk (bl2 HB2.out hb3)
  have HFR3 := Hid.mk (HFR2.out.kept hb3)
  have HM3 := Hid.mk (HM2.out.kept hb3)
  clear hb3 k0 k1 k2 k3 k4 k5 HB2 HFR2 HM2
  obtain ⟨k0, k1, k2, k3, k4, k5⟩ := HFR3.out
  go_wp2_with fail
  refine (HIN2.out am cm _ HM3.out HB3.out).mono ?_
  rintro e w4 ⟨v2, rfl, hown2, hb4⟩
  obtain ⟨a2, c2, rfl, -⟩ := nums_of hown2
  rw [HN2.out]
  clear hown2
  have HB4 := Hid.mk (bl2 HB3.out hb4)
  have HFR4 := Hid.mk (HFR3.out.kept hb4)
  have HM4 := Hid.mk (HM3.out.kept hb4)
  clear hb4 k0 k1 k2 k3 k4 k5 HB3 HFR3 HM3
  obtain ⟨k0, k1, k2, k3, k4, k5⟩ := HFR4.out
  go_wp2_with fail
  refine (HCN1.out _ HB4.out).mono ?_
  rintro e w5 ⟨rfl, hb5⟩
  have HB5 := Hid.mk (bl2 HB4.out hb5)
  have HFR5 := Hid.mk (HFR4.out.kept hb5)
  have HM5 := Hid.mk (HM4.out.kept hb5)
  clear hb5 k0 k1 k2 k3 k4 k5 HB4 HFR4 HM4
  obtain ⟨k0, k1, k2, k3, k4, k5⟩ := HFR5.out
  go_wp2_with fail
  refine (HCN2.out am cm _ HM5.out HB5.out).mono ?_
  rintro e w6 ⟨rfl, hb6⟩
  have HB6 := Hid.mk (bl2 HB5.out hb6)
  have HFR6 := Hid.mk (HFR5.out.kept hb6)
  have HM6 := Hid.mk (HM5.out.kept hb6)
  clear hb6 k0 k1 k2 k3 k4 k5 HB5 HFR5 HM5
  obtain ⟨k0, k1, k2, k3, k4, k5⟩ := HFR6.out
  go_wp2_with fail
  refine (HRG.out _ HB6.out).mono ?_
  rintro e w7 ⟨v3, rfl, hown3, hb7⟩
  obtain ⟨ar, cr, rfl, hR0⟩ := fils_of hown3
  rw [← HML.out] at hR0 ⊢
  have HR7 := Hid.mk hR0
  have HB7 := Hid.mk (bl2 HB6.out hb7)
  have HFR7 := Hid.mk (HFR6.out.kept hb7)
  clear hb7 k0 k1 k2 k3 k4 k5 hown3 hR0 HB6 HFR6
  obtain ⟨k0, k1, k2, k3, k4, k5⟩ := HFR7.out
  go_wp2_with fail
  refine (HCN3.out ar cr _ HR7.out HB7.out).mono ?_
  rintro e w8 ⟨rfl, hb8⟩
  have HB8 := Hid.mk (bl2 HB7.out hb8)
  have HFR8 := Hid.mk (HFR7.out.kept hb8)
  have HR8 := Hid.mk (HR7.out.kept hb8)
  clear hb8 k0 k1 k2 k3 k4 k5 HB7 HFR7 HR7
  obtain ⟨k0, k1, k2, k3, k4, k5⟩ := HFR8.out
  go_wp2_with fail
  refine (HIN3.out ar cr _ HR8.out HB8.out).mono ?_
  rintro e w9 ⟨v4, rfl, hown4, hb9⟩
  obtain ⟨a4, c4, rfl, -⟩ := nums_of hown4
  rw [HL3.out]
  clear hown4
  have HB9 := Hid.mk (bl2 HB8.out hb9)
  have HFR9 := Hid.mk (HFR8.out.kept hb9)
  have HR9 := Hid.mk (HR8.out.kept hb9)
  clear hb9 k0 k1 k2 k3 k4 k5 HB8 HFR8 HR8
  obtain ⟨k0, k1, k2, k3, k4, k5⟩ := HFR9.out
  go_wp2_with fail
  go_ret
  exact ⟨rfl, HB9.out⟩
set_option maxHeartbeats 8000000 in
set_option maxRecDepth 100000 in
theorem fsC_fi (a : Option Addr) (n c : Nat) (l : List Fn) (id : Nat) (lo fa re : Bool) (sz : Int) (fa0 : Option Addr) (len cap : Nat) (low high : Nat) (w : World) (hF : IsFils w a n c (l.map Fn.f)) (hL : LastsAt w) (hS : SizesAt w) (hlen : len ≤ maxLen) (hok : ∀ x ∈ l, okN x) (hn : n ≤ 16) (hG : frEn id lo fa re sz len = 0) (hid : id ≤ topN lo) (hany : anyN l lo id = true) (h1 : low ≤ high) (h2 : high ≤ topN lo) (hM : (rngN lo high low).length ≤ 16) (hp : low ≤ id) (hp2 : id ≤ high) :
    Calls Tryd.prog 7 #[.slice a n c, frameV id lo fa re sz fa0 len cap, .int .i64 low, .int .i64 high] w fun e w' => e = .returned (.bool true) ∧ Below w.heap.size w w' := by
  have hb := below_box w id lo fa re sz fa0 len cap
  have HFR := Hid.mk (FrAt.box w id lo fa re sz fa0 len cap)
  have HB := Hid.mk hb
  have HFI := Hid.mk (fun W (hb : Below w.heap.size w W) => filtered_any W (hL.kept hb))
  have hln : l.length = n := by have := hF.len; simpa using this
  have HLE := Hid.mk (least_okP a n c l _ (hF.kept hb) (hL.kept hb) hok hn)
  obtain ⟨N, hN⟩ : ∃ N, N = (leastN l).length := ⟨_, rfl⟩
  have hN16 : N ≤ 16 := by
    have := leastK_len l l.length
    rw [hN]
    unfold leastN
    omega
  have HN := Hid.mk hN
  have HCN1 := Hid.mk (fun W (hb : Below w.heap.size w W) => count_ok a n c l true W (hF.kept hb) (hL.kept hb) hok hn)
  have hC2 := fun am cm W (hM : IsFils W am N cm ((leastN l).map Fn.f)) (hb : Below w.heap.size w W) => count_ok am N cm (leastN l) true W hM (hL.kept hb) (least_ok hok) hN16
  rw [least_count] at hC2
  have HCN2 := Hid.mk hC2
  clear hC2
  obtain ⟨X, hX⟩ : ∃ X, X = countN l true := ⟨_, rfl⟩
  rw [← hX] at HCN1 HCN2
  clear hX
  have HIN1 := Hid.mk (fun W (hb : Below w.heap.size w W) => in_ok a n c l id lo fa re sz fa0 len cap W (hF.kept hb) (hL.kept hb) (hS.kept hb) hlen hok hn hG hid)
  have HIN2 := Hid.mk (fun am cm W (hM : IsFils W am N cm ((leastN l).map Fn.f)) (hb : Below w.heap.size w W) => in_ok am N cm (leastN l) id lo fa re sz fa0 len cap W hM (hL.kept hb) (hS.kept hb) hlen (least_ok hok) hN16 hG hid)
  have g1 := in_any l lo id
  have g2 := in_any (leastN l) lo id
  rw [least_any] at g2
  rw [hany] at g1 g2
  simp only [decide_eq_true_eq] at g1 g2
  obtain ⟨N1, hN1⟩ : ∃ N1, N1 = (inN l lo id).length := ⟨_, rfl⟩
  obtain ⟨N2, hN2⟩ : ∃ N2, N2 = (inN (leastN l) lo id).length := ⟨_, rfl⟩
  rw [← hN1] at g1
  rw [← hN2] at g2
  have g1' : (0 : Int) < (N1 : Int) := by omega
  have g2' : (0 : Int) < (N2 : Int) := by omega
  have g3 : decide ((0 : Int) < (N1 : Int)) = true := by simp; omega
  have g4 : decide ((0 : Int) < (N2 : Int)) = true := by simp; omega
  have g5 : decide (0 < N1) = true := by simp; omega
  have g6 : decide (0 < N2) = true := by simp; omega
  have HN1 := Hid.mk hN1.symm
  have HN2 := Hid.mk hN2.symm
  clear hN1 hN2
  have HRG := Hid.mk (fun W (hb : Below w.heap.size w W) => ranges_ok low high lo W (hL.kept hb) h1 h2)
  obtain ⟨M, hMl⟩ : ∃ M, M = (rngN lo high low).length := ⟨_, rfl⟩
  have HML := Hid.mk hMl
  rw [← hMl] at hM
  have hM' : (M : Int) ≤ 16 := by omega
  have hC3 := fun ar cr W (hR : IsFils W ar M cr ((rngN lo high low).map Fn.f)) (hb : Below w.heap.size w W) => count_ok ar M cr (rngN lo high low) lo W hR (hL.kept hb) (rngN_ok lo high low h2) hM
  rw [rngN_count lo high low h2] at hC3
  obtain ⟨C, hC⟩ : ∃ C, C = high + 1 - low := ⟨_, rfl⟩
  rw [← hC] at hC3
  have HCN3 := Hid.mk hC3
  have hCb : ((C : Int) != (high : Int) - (low : Int) + 1) = false := by rw [bne_eq_false_iff_eq]; omega
  have htl := topN_le lo
  have hlo1 : (low : Int) ≤ (high : Int) := by omega
  have hhi1 : (high : Int) ≤ 536870911 := by omega
  have HIN3 := Hid.mk (fun ar cr W (hR : IsFils W ar M cr ((rngN lo high low).map Fn.f)) (hb : Below w.heap.size w W) => in_ok ar M cr (rngN lo high low) id lo fa re sz fa0 len cap W hR (hL.kept hb) (hS.kept hb) hlen (rngN_ok lo high low h2) hM hG hid)
  have HL3 : Hid ((inN (rngN lo high low) lo id).length = 1) := Hid.mk (by rw [in_count, rngN_hits lo high low id h2 hid, if_pos ⟨hp, hp2⟩])
  have hp' : (low : Int) ≤ (id : Int) := by omega
  have hp2' : (id : Int) ≤ (high : Int) := by omega
  clear hF hL hb hS hlen hok hn hln hN hG hid hany g1 g2 h1 h2 hMl hM hC3 hC htl hp hp2 hN16
  obtain ⟨k0, k1, k2, k3, k4, k5⟩ := HFR.out
  unfold frameC at HB HFR HLE k0 k1 k2 k3 k4 k5
  unfold frameV at HIN1 HIN2 HIN3 ⊢
  go_enter Tryd.func7, Tryd.ntmps7
  go_wp2_with fail
  refine HLE.out.mono ?_
  rintro e w1 ⟨v, rfl, hown, hb1⟩
  obtain ⟨am, cm, rfl, hM0⟩ := fils_of hown
  rw [← HN.out] at hM0 ⊢
  have HM1 := Hid.mk hM0
  have HB1 := Hid.mk (bl2 HB.out hb1)
  have HFR1 := Hid.mk (HFR.out.kept hb1)
  clear hb1 k0 k1 k2 k3 k4 k5 HB HFR hown hM0
  obtain ⟨k0, k1, k2, k3, k4, k5⟩ := HFR1.out
  go_wp2_with fail
  refine (HFI.out _ HB1.out).mono ?_
  rintro e w2 ⟨rfl, hb2⟩
  have HB2 := Hid.mk (bl2 HB1.out hb2)
  have HFR2 := Hid.mk (HFR1.out.kept hb2)
  have HM2 := Hid.mk (HM1.out.kept hb2)
  clear hb2 k0 k1 k2 k3 k4 k5 HB1 HFR1 HM1
  obtain ⟨k0, k1, k2, k3, k4, k5⟩ := HFR2.out
  go_wp2_with fail
  refine (HIN1.out _ HB2.out).mono ?_
  rintro e w3 ⟨v1, rfl, hown1, hb3⟩
  obtain ⟨a1, c1, rfl, -⟩ := nums_of hown1
  rw [HN1.out]
  clear hown1
  have HB3 := Hid.mk (bl2 HB2.out hb3)
  have HFR3 := Hid.mk (HFR2.out.kept hb3)
  have HM3 := Hid.mk (HM2.out.kept hb3)
  clear hb3 k0 k1 k2 k3 k4 k5 HB2 HFR2 HM2
  obtain ⟨k0, k1, k2, k3, k4, k5⟩ := HFR3.out
  go_wp2_with fail
  refine (HIN2.out am cm _ HM3.out HB3.out).mono ?_
  rintro e w4 ⟨v2, rfl, hown2, hb4⟩
  obtain ⟨a2, c2, rfl, -⟩ := nums_of hown2
  rw [HN2.out]
  clear hown2
  have HB4 := Hid.mk (bl2 HB3.out hb4)
  have HFR4 := Hid.mk (HFR3.out.kept hb4)
  have HM4 := Hid.mk (HM3.out.kept hb4)
  clear hb4 k0 k1 k2 k3 k4 k5 HB3 HFR3 HM3
  obtain ⟨k0, k1, k2, k3, k4, k5⟩ := HFR4.out
  go_wp2_with fail
  refine (HCN1.out _ HB4.out).mono ?_
  rintro e w5 ⟨rfl, hb5⟩
  have HB5 := Hid.mk (bl2 HB4.out hb5)
  have HFR5 := Hid.mk (HFR4.out.kept hb5)
  have HM5 := Hid.mk (HM4.out.kept hb5)
  clear hb5 k0 k1 k2 k3 k4 k5 HB4 HFR4 HM4
  obtain ⟨k0, k1, k2, k3, k4, k5⟩ := HFR5.out
  go_wp2_with fail
  refine (HCN2.out am cm _ HM5.out HB5.out).mono ?_
  rintro e w6 ⟨rfl, hb6⟩
  have HB6 := Hid.mk (bl2 HB5.out hb6)
  have HFR6 := Hid.mk (HFR5.out.kept hb6)
  have HM6 := Hid.mk (HM5.out.kept hb6)
  clear hb6 k0 k1 k2 k3 k4 k5 HB5 HFR5 HM5
  obtain ⟨k0, k1, k2, k3, k4, k5⟩ := HFR6.out
  go_wp2_with fail
  refine (HRG.out _ HB6.out).mono ?_
  rintro e w7 ⟨v3, rfl, hown3, hb7⟩
  obtain ⟨ar, cr, rfl, hR0⟩ := fils_of hown3
  rw [← HML.out] at hR0 ⊢
  have HR7 := Hid.mk hR0
  have HB7 := Hid.mk (bl2 HB6.out hb7)
  have HFR7 := Hid.mk (HFR6.out.kept hb7)
  clear hb7 k0 k1 k2 k3 k4 k5 hown3 hR0 HB6 HFR6
  obtain ⟨k0, k1, k2, k3, k4, k5⟩ := HFR7.out
  go_wp2_with fail
  refine (HCN3.out ar cr _ HR7.out HB7.out).mono ?_
  rintro e w8 ⟨rfl, hb8⟩
  have HB8 := Hid.mk (bl2 HB7.out hb8)
  have HFR8 := Hid.mk (HFR7.out.kept hb8)
  have HR8 := Hid.mk (HR7.out.kept hb8)
  clear hb8 k0 k1 k2 k3 k4 k5 HB7 HFR7 HR7
  obtain ⟨k0, k1, k2, k3, k4, k5⟩ := HFR8.out
  go_wp2_with fail
  refine (HIN3.out ar cr _ HR8.out HB8.out).mono ?_
  rintro e w9 ⟨v4, rfl, hown4, hb9⟩
  obtain ⟨a4, c4, rfl, -⟩ := nums_of hown4
  rw [HL3.out]
  clear hown4
  have HB9 := Hid.mk (bl2 HB8.out hb9)
  have HFR9 := Hid.mk (HFR8.out.kept hb9)
  have HR9 := Hid.mk (HR8.out.kept hb9)
  clear hb9 k0 k1 k2 k3 k4 k5 HB8 HFR8 HR8
  obtain ⟨k0, k1, k2, k3, k4, k5⟩ := HFR9.out
  go_wp2_with fail
  go_ret
  exact ⟨rfl, HB9.out⟩
set_option maxHeartbeats 8000000 in
set_option maxRecDepth 100000 in
theorem fsC_fh (a : Option Addr) (n c : Nat) (l : List Fn) (id : Nat) (lo fa re : Bool) (sz : Int) (fa0 : Option Addr) (len cap : Nat) (low high : Nat) (w : World) (hF : IsFils w a n c (l.map Fn.f)) (hL : LastsAt w) (hS : SizesAt w) (hlen : len ≤ maxLen) (hok : ∀ x ∈ l, okN x) (hn : n ≤ 16) (hG : frEn id lo fa re sz len = 0) (hid : id ≤ topN lo) (hany : anyN l lo id = true) (h1 : low ≤ high) (h2 : high ≤ topN lo) (hM : (rngN lo high low).length ≤ 16) (hp : high < id) :
    Calls Tryd.prog 7 #[.slice a n c, frameV id lo fa re sz fa0 len cap, .int .i64 low, .int .i64 high] w fun e w' => e = .returned (.bool true) ∧ Below w.heap.size w w' := by
  have hb := below_box w id lo fa re sz fa0 len cap
  have HFR := Hid.mk (FrAt.box w id lo fa re sz fa0 len cap)
  have HB := Hid.mk hb
  have HFI := Hid.mk (fun W (hb : Below w.heap.size w W) => filtered_any W (hL.kept hb))
  have hln : l.length = n := by have := hF.len; simpa using this
  have HLE := Hid.mk (least_okP a n c l _ (hF.kept hb) (hL.kept hb) hok hn)
  obtain ⟨N, hN⟩ : ∃ N, N = (leastN l).length := ⟨_, rfl⟩
  have hN16 : N ≤ 16 := by
    have := leastK_len l l.length
    rw [hN]
    unfold leastN
    omega
  have HN := Hid.mk hN
  have HCN1 := Hid.mk (fun W (hb : Below w.heap.size w W) => count_ok a n c l true W (hF.kept hb) (hL.kept hb) hok hn)
  have hC2 := fun am cm W (hM : IsFils W am N cm ((leastN l).map Fn.f)) (hb : Below w.heap.size w W) => count_ok am N cm (leastN l) true W hM (hL.kept hb) (least_ok hok) hN16
  rw [least_count] at hC2
  have HCN2 := Hid.mk hC2
  clear hC2
  obtain ⟨X, hX⟩ : ∃ X, X = countN l true := ⟨_, rfl⟩
  rw [← hX] at HCN1 HCN2
  clear hX
  have HIN1 := Hid.mk (fun W (hb : Below w.heap.size w W) => in_ok a n c l id lo fa re sz fa0 len cap W (hF.kept hb) (hL.kept hb) (hS.kept hb) hlen hok hn hG hid)
  have HIN2 := Hid.mk (fun am cm W (hM : IsFils W am N cm ((leastN l).map Fn.f)) (hb : Below w.heap.size w W) => in_ok am N cm (leastN l) id lo fa re sz fa0 len cap W hM (hL.kept hb) (hS.kept hb) hlen (least_ok hok) hN16 hG hid)
  have g1 := in_any l lo id
  have g2 := in_any (leastN l) lo id
  rw [least_any] at g2
  rw [hany] at g1 g2
  simp only [decide_eq_true_eq] at g1 g2
  obtain ⟨N1, hN1⟩ : ∃ N1, N1 = (inN l lo id).length := ⟨_, rfl⟩
  obtain ⟨N2, hN2⟩ : ∃ N2, N2 = (inN (leastN l) lo id).length := ⟨_, rfl⟩
  rw [← hN1] at g1
  rw [← hN2] at g2
  have g1' : (0 : Int) < (N1 : Int) := by omega
  have g2' : (0 : Int) < (N2 : Int) := by omega
  have g3 : decide ((0 : Int) < (N1 : Int)) = true := by simp; omega
  have g4 : decide ((0 : Int) < (N2 : Int)) = true := by simp; omega
  have g5 : decide (0 < N1) = true := by simp; omega
  have g6 : decide (0 < N2) = true := by simp; omega
  have HN1 := Hid.mk hN1.symm
  have HN2 := Hid.mk hN2.symm
  clear hN1 hN2
  have HRG := Hid.mk (fun W (hb : Below w.heap.size w W) => ranges_ok low high lo W (hL.kept hb) h1 h2)
  obtain ⟨M, hMl⟩ : ∃ M, M = (rngN lo high low).length := ⟨_, rfl⟩
  have HML := Hid.mk hMl
  rw [← hMl] at hM
  have hM' : (M : Int) ≤ 16 := by omega
  have hC3 := fun ar cr W (hR : IsFils W ar M cr ((rngN lo high low).map Fn.f)) (hb : Below w.heap.size w W) => count_ok ar M cr (rngN lo high low) lo W hR (hL.kept hb) (rngN_ok lo high low h2) hM
  rw [rngN_count lo high low h2] at hC3
  obtain ⟨C, hC⟩ : ∃ C, C = high + 1 - low := ⟨_, rfl⟩
  rw [← hC] at hC3
  have HCN3 := Hid.mk hC3
  have hCb : ((C : Int) != (high : Int) - (low : Int) + 1) = false := by rw [bne_eq_false_iff_eq]; omega
  have htl := topN_le lo
  have hlo1 : (low : Int) ≤ (high : Int) := by omega
  have hhi1 : (high : Int) ≤ 536870911 := by omega
  have HIN3 := Hid.mk (fun ar cr W (hR : IsFils W ar M cr ((rngN lo high low).map Fn.f)) (hb : Below w.heap.size w W) => in_ok ar M cr (rngN lo high low) id lo fa re sz fa0 len cap W hR (hL.kept hb) (hS.kept hb) hlen (rngN_ok lo high low h2) hM hG hid)
  have HL3 : Hid ((inN (rngN lo high low) lo id).length = 0) := Hid.mk (by rw [in_count, rngN_hits lo high low id h2 hid, if_neg (by omega)])
  have hp' : (high : Int) < (id : Int) := by omega
  have hp2' : (low : Int) ≤ (id : Int) := by omega
  have hp3 : decide ((id : Int) ≤ (high : Int)) = false := by simp; omega
  have hp4 : decide (id ≤ high) = false := by simp; omega
  clear hF hL hb hS hlen hok hn hln hN hG hid hany g1 g2 h1 h2 hMl hM hC3 hC htl hp hN16
  obtain ⟨k0, k1, k2, k3, k4, k5⟩ := HFR.out
  unfold frameC at HB HFR HLE k0 k1 k2 k3 k4 k5
  unfold frameV at HIN1 HIN2 HIN3 ⊢
  go_enter Tryd.func7, Tryd.ntmps7
  go_wp2_with fail
  refine HLE.out.mono ?_
  rintro e w1 ⟨v, rfl, hown, hb1⟩
  obtain ⟨am, cm, rfl, hM0⟩ := fils_of hown
  rw [← HN.out] at hM0 ⊢
  have HM1 := Hid.mk hM0
  have HB1 := Hid.mk (bl2 HB.out hb1)
  have HFR1 := Hid.mk (HFR.out.kept hb1)
  clear hb1 k0 k1 k2 k3 k4 k5 HB HFR hown hM0
  obtain ⟨k0, k1, k2, k3, k4, k5⟩ := HFR1.out
  go_wp2_with fail
  refine (HFI.out _ HB1.out).mono ?_
  rintro e w2 ⟨rfl, hb2⟩
  have HB2 := Hid.mk (bl2 HB1.out hb2)
  have HFR2 := Hid.mk (HFR1.out.kept hb2)
  have HM2 := Hid.mk (HM1.out.kept hb2)
  clear hb2 k0 k1 k2 k3 k4 k5 HB1 HFR1 HM1
  obtain ⟨k0, k1, k2, k3, k4, k5⟩ := HFR2.out
  go_wp2_with fail
  refine (HIN1.out _ HB2.out).mono ?_
  rintro e w3 ⟨v1, rfl, hown1, hb3⟩
  obtain ⟨a1, c1, rfl, -⟩ := nums_of hown1
  rw [HN1.out]
  clear hown1
  have HB3 := Hid.mk (bl2 HB2.out hb3)
  have HFR3 := Hid.mk (HFR2.out.kept hb3)
  have HM3 := Hid.mk (HM2.out.kept hb3)
  clear hb3 k0 k1 k2 k3 k4 k5 HB2 HFR2 HM2
  obtain ⟨k0, k1, k2, k3, k4, k5⟩ := HFR3.out
  go_wp2_with fail
  refine (HIN2.out am cm _ HM3.out HB3.out).mono ?_
  rintro e w4 ⟨v2, rfl, hown2, hb4⟩
  obtain ⟨a2, c2, rfl, -⟩ := nums_of hown2
  rw [HN2.out]
  clear hown2
  have HB4 := Hid.mk (bl2 HB3.out hb4)
  have HFR4 := Hid.mk (HFR3.out.kept hb4)
  have HM4 := Hid.mk (HM3.out.kept hb4)
  clear hb4 k0 k1 k2 k3 k4 k5 HB3 HFR3 HM3
  obtain ⟨k0, k1, k2, k3, k4, k5⟩ := HFR4.out
  go_wp2_with fail
  refine (HCN1.out _ HB4.out).mono ?_
  rintro e w5 ⟨rfl, hb5⟩
  have HB5 := Hid.mk (bl2 HB4.out hb5)
  have HFR5 := Hid.mk (HFR4.out.kept hb5)
  have HM5 := Hid.mk (HM4.out.kept hb5)
  clear hb5 k0 k1 k2 k3 k4 k5 HB4 HFR4 HM4
  obtain ⟨k0, k1, k2, k3, k4, k5⟩ := HFR5.out
  go_wp2_with fail
  refine (HCN2.out am cm _ HM5.out HB5.out).mono ?_
  rintro e w6 ⟨rfl, hb6⟩
  have HB6 := Hid.mk (bl2 HB5.out hb6)
  have HFR6 := Hid.mk (HFR5.out.kept hb6)
  have HM6 := Hid.mk (HM5.out.kept hb6)
  clear hb6 k0 k1 k2 k3 k4 k5 HB5 HFR5 HM5
  obtain ⟨k0, k1, k2, k3, k4, k5⟩ := HFR6.out
  go_wp2_with fail
  refine (HRG.out _ HB6.out).mono ?_
  rintro e w7 ⟨v3, rfl, hown3, hb7⟩
  obtain ⟨ar, cr, rfl, hR0⟩ := fils_of hown3
  rw [← HML.out] at hR0 ⊢
  have HR7 := Hid.mk hR0
  have HB7 := Hid.mk (bl2 HB6.out hb7)
  have HFR7 := Hid.mk (HFR6.out.kept hb7)
  clear hb7 k0 k1 k2 k3 k4 k5 hown3 hR0 HB6 HFR6
  obtain ⟨k0, k1, k2, k3, k4, k5⟩ := HFR7.out
  go_wp2_with fail
  refine (HCN3.out ar cr _ HR7.out HB7.out).mono ?_
  rintro e w8 ⟨rfl, hb8⟩
  have HB8 := Hid.mk (bl2 HB7.out hb8)
  have HFR8 := Hid.mk (HFR7.out.kept hb8)
  have HR8 := Hid.mk (HR7.out.kept hb8)
  clear hb8 k0 k1 k2 k3 k4 k5 HB7 HFR7 HR7
  obtain ⟨k0, k1, k2, k3, k4, k5⟩ := HFR8.out
  go_wp2_with fail
  refine (HIN3.out ar cr _ HR8.out HB8.out).mono ?_
  rintro e w9 ⟨v4, rfl, hown4, hb9⟩
  obtain ⟨a4, c4, rfl, -⟩ := nums_of hown4
  rw [HL3.out]
  clear hown4
  have HB9 := Hid.mk (bl2 HB8.out hb9)
  have HFR9 := Hid.mk (HFR8.out.kept hb9)
  have HR9 := Hid.mk (HR8.out.kept hb9)
  clear hb9 k0 k1 k2 k3 k4 k5 HB8 HFR8 HR8
  obtain ⟨k0, k1, k2, k3, k4, k5⟩ := HFR9.out
  go_wp2_with fail
  go_ret
  exact ⟨rfl, HB9.out⟩
end Bw
end Go.Proofs.YtfmjhgggoklaoaaDoor
