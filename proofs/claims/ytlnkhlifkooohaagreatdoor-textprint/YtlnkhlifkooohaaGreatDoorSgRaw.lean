/- What signal.Raw answers. -/
import Derived.Test.YtlnkhlifkooohaaGreatDoorSgSpan
namespace Go.Proofs.YtlnkhlifkooohaaGreatDoor
open Go.ChangeShapes Go.WideShapes Go.ChangeAt Go.RowKit Go.Sort
namespace Bw
open Sm
/-- num less Add, times Div; den times Mul -/
def wholeI (s : Sig) (num den : Int) : Int := (num - s.ad * den) * s.di
def partI (s : Sig) (den : Int) : Int := den * s.mu
def fracB (num den : Int) : Bool := inB den 1 1000000 && inB num (-1099511627776) 1099511627776
/-- Raw's error of a right signal -/
def rawE (s : Sig) (sz : Nat) (num den : Int) : Int :=
  if fracB num den = false then 3 else if ¬ (wholeI s num den).tmod (partI s den) = 0 then 4 else if inB ((wholeI s num den).tdiv (partI s den)) (lowS s.sg sz) (highS s.sg sz) = false then 3 else 0
def rawV (s : Sig) (num den : Int) : Int := (wholeI s num den).tdiv (partI s den)
theorem mul_bound {a b A B : Int} (h1 : -A ≤ a) (h2 : a ≤ A) (h3 : -B ≤ b) (h4 : b ≤ B) : -(A * B) ≤ a * b ∧ a * b ≤ A * B := by
  have hA : 0 ≤ A := by omega
  have h5 : a.natAbs ≤ A.toNat := by omega
  have h6 : b.natAbs ≤ B.toNat := by omega
  have h7 : (a * b).natAbs ≤ A.toNat * B.toNat := by rw [Int.natAbs_mul]; exact Nat.mul_le_mul h5 h6
  have h8 : ((A.toNat * B.toNat : Nat) : Int) = A * B := by
    rw [Int.natCast_mul, Int.toNat_of_nonneg hA, Int.toNat_of_nonneg (by omega)]
  omega
theorem tdiv_bound (x y : Int) : (x.tdiv y).natAbs ≤ x.natAbs := by rw [Int.natAbs_tdiv]; exact Nat.div_le_self _ _
/-- how great these are -/
theorem whole_bound {s : Sig} {st sz n : Nat} (h : Rt s st sz n) {num den : Int} (hf : fracB num den = true) :
    (-1000000000000 ≤ s.ad * den ∧ s.ad * den ≤ 1000000000000) ∧ (-2099511627776000000 ≤ wholeI s num den ∧ wholeI s num den ≤ 2099511627776000000) ∧ (-1000000000000 ≤ partI s den ∧ partI s den ≤ 1000000000000) ∧ partI s den ≠ 0 := by
  unfold fracB at hf
  simp only [Bool.and_eq_true, inB_iff] at hf
  have h1 := h.ad1
  have h2 := h.ad2
  have h3 := h.di1
  have h4 := h.di2
  have h5 := h.mu1
  have h6 := h.mu2
  have hA := mul_bound (a := s.ad) (b := den) (A := 1000000) (B := 1000000) (by omega) (by omega) (by omega) (by omega)
  have hW := mul_bound (a := num - s.ad * den) (b := s.di) (A := 2099511627776) (B := 1000000) (by omega) (by omega) (by omega) (by omega)
  have hP := mul_bound (a := den) (b := s.mu) (A := 1000000) (B := 1000000) (by omega) (by omega) (by omega) (by omega)
  refine ⟨by omega, by unfold wholeI; omega, by unfold partI; omega, ?_⟩
  unfold partI
  exact Int.mul_ne_zero (by omega) h.mu0
set_option maxHeartbeats 4000000 in
theorem sraw_bad (s : Sig) (num den : Int) (w : World) (h : wfS s) (hE : chkS s 64 ≠ 0) :
    Calls Tryz.prog 78 #[sgV s, .int .i64 num, .int .i64 den] w fun e w' => e = .returned (.tuple #[.int .i64 0, .int .i64 (chkS s 64)]) ∧ Below w.heap.size w w' := by
  have HB := Hid.mk (sg_box w s)
  have hC := fun W => scheck_any s 64 W h
  have hne : (chkS s 64 != 0) = true := by simpa using hE
  clear hE
  generalize chkS s 64 = E at *
  obtain ⟨nm, st, sz, bk, sg, mu, di, ad, ky⟩ := s
  unfold sgC at HB
  unfold sgV at hC ⊢
  simp only at HB hC ⊢
  clear h
  go_enter Tryz.func78, Tryz.ntmps78
  go_wp2_with fail
  refine (hC _).mono ?_
  rintro e w1 ⟨rfl, hb1⟩
  have HB1 := Hid.mk (bl2 HB.out hb1)
  clear hb1
  go_wp2_with fail
  go_ret2
  exact ⟨rfl, HB1.out⟩
set_option maxHeartbeats 8000000 in
theorem sraw_any (s : Sig) (st sz : Nat) (num den : Int) (w : World) (h : wfS s) (hE : chkS s 64 = 0) (hR : Rt s st sz 64) :
    Calls Tryz.prog 78 #[sgV s, .int .i64 num, .int .i64 den] w fun e w' => e = .returned (.tuple #[.int .i64 (if rawE s sz num den = 0 then rawV s num den else 0), .int .i64 (rawE s sz num den)]) ∧ Below w.heap.size w w' := by
  have HB := Hid.mk (sg_box w s)
  have HG := Hid.mk (SgAt.box w s)
  have hC := fun W => scheck_any s 64 W h
  rw [hE] at hC
  have hI1 := fun W => swithin_any den 1 1000000 W
  have hI2 := fun W => swithin_any num (-1099511627776) 1099511627776 W
  have hS := fun W => span_any s st sz 64 W hR
  have hbd := fun hf => whole_bound hR (num := num) (den := den) hf
  have hI3 := fun x W => swithin_any x (lowS s.sg sz) (highS s.sg sz) W
  unfold rawE rawV
  have hfb : fracB num den = (inB den 1 1000000 && inB num (-1099511627776) 1099511627776) := rfl
  have hwd : wholeI s num den = (num - s.ad * den) * s.di := rfl
  have hpd : partI s den = den * s.mu := rfl
  generalize hW0 : wholeI s num den = WH at *
  generalize hP0 : partI s den = PT at *
  generalize hl0 : lowS s.sg sz = lo at *
  generalize hh0 : highS s.sg sz = hi at *
  obtain ⟨nm, sta, sza, bk, sg, mu, di, ad, ky⟩ := s
  unfold sgC at HB HG
  unfold sgV at hC hS ⊢
  simp only at HB HG hC hS hbd hwd hpd ⊢
  clear h hE hR hW0 hP0 hl0 hh0
  rw [hfb]
  generalize hE1 : inB den 1 1000000 = e1 at *
  generalize hE2 : inB num (-1099511627776) 1099511627776 = e2 at *
  cases e1 with
  | false =>
    simp only [Bool.false_and, if_true, Int.reduceEq, if_false]
    clear hbd hwd hpd hI2 hI3 hS hE1 hE2 hfb
    go_enter Tryz.func78, Tryz.ntmps78
    go_wp2_with fail
    refine (hC _).mono ?_
    rintro e w1 ⟨rfl, hb1⟩
    have HB1 := Hid.mk (bl2 HB.out hb1)
    clear hb1
    go_wp2_with fail
    refine (hI1 _).mono ?_
    rintro e w2 ⟨rfl, hw2⟩
    obtain rfl := hw2.symm
    go_wp2_with fail
    go_ret2
    exact ⟨rfl, HB1.out⟩
  | true =>
    cases e2 with
    | false =>
      simp only [Bool.and_false, if_true, Int.reduceEq, if_false]
      clear hbd hwd hpd hI3 hS hE1 hE2 hfb
      go_enter Tryz.func78, Tryz.ntmps78
      go_wp2_with fail
      refine (hC _).mono ?_
      rintro e w1 ⟨rfl, hb1⟩
      have HB1 := Hid.mk (bl2 HB.out hb1)
      clear hb1
      go_wp2_with fail
      refine (hI1 _).mono ?_
      rintro e w2 ⟨rfl, hw2⟩
      obtain rfl := hw2.symm
      go_wp2_with fail
      refine (hI2 _).mono ?_
      rintro e w2 ⟨rfl, hw2⟩
      obtain rfl := hw2.symm
      go_wp2_with fail
      go_ret2
      exact ⟨rfl, HB1.out⟩
    | true =>
      simp only [Bool.and_true, Bool.true_eq_false, if_false]
      have hd := inB_iff.1 hE1
      have hn := inB_iff.1 hE2
      obtain ⟨⟨a1, a2⟩, ⟨b1, b2⟩, ⟨c1, c2⟩, c3⟩ := hbd (by rw [hfb]; rfl)
      obtain ⟨A, hA⟩ : ∃ A, A = ad * den := ⟨_, rfl⟩
      rw [← hA] at a1 a2 hwd
      have hA' : IntKind.i64.wrap (ad * den) = A := by rw [IntKind.wrap_i64, ← hA]; omega
      have hW' : IntKind.i64.wrap ((num - A) * di) = WH := by rw [IntKind.wrap_i64, ← hwd]; omega
      have hP' : IntKind.i64.wrap (den * mu) = PT := by rw [IntKind.wrap_i64, ← hpd]; omega
      obtain ⟨d1, d2⟩ := hd
      obtain ⟨n1, n2⟩ := hn
      have htd := tdiv_bound WH PT
      obtain ⟨QT, hQT⟩ : ∃ QT, QT = WH.tdiv PT := ⟨_, rfl⟩
      have hq : IntKind.i64.wrap (WH.tdiv PT) = QT := by rw [IntKind.wrap_i64, hQT]; omega
      have hI4 := hI3 QT
      rw [← hQT]
      have c3' : ¬ PT = 0 := c3
      have HI1 := Hid.mk hI1
      have HI2 := Hid.mk hI2
      have HS := Hid.mk hS
      have HI4 := Hid.mk hI4
      clear hA hwd hpd hbd hE1 hE2 hfb htd hI3 hI1 hI2 hS hI4 c3 hQT
      by_cases hm : WH.tmod PT = 0
      · have hrE : ∀ x : Int, (if ¬ WH.tmod PT = 0 then 4 else x) = x := fun x => if_neg (by rw [hm]; simp)
        rw [hrE]
        clear hrE
        have hm2 : (WH.tmod PT == 0) = true := by simpa using hm
        have hm3 : (WH.tmod PT != 0) = false := by rw [hm]; rfl
        generalize hE3 : inB QT lo hi = e3 at *
        clear hE3 hm
        have hfin : ∀ b : Bool, (if (if b = false then (3 : Int) else 0) = 0 then QT else 0) = (if b = true then QT else 0) := by intro b; cases b <;> rfl
        rw [hfin]
        clear hfin
        go_enter Tryz.func78, Tryz.ntmps78
        go_wp2_with fail
        refine (hC _).mono ?_
        rintro e w1 ⟨rfl, hb1⟩
        have HB1 := Hid.mk (bl2 HB.out hb1)
        have HG1 := Hid.mk (HG.out.kept hb1)
        obtain ⟨k0, k1, k2, k3, k4, k5, k6, k7, k8⟩ := HG1.out
        simp only at k0 k1 k2 k3 k4 k5 k6 k7 k8
        clear hb1 hC
        go_wp2_with fail
        refine (HI1.out _).mono ?_
        rintro e w2 ⟨rfl, hw2⟩
        obtain rfl := hw2.symm
        go_wp2_with fail
        refine (HI2.out _).mono ?_
        rintro e w2 ⟨rfl, hw2⟩
        obtain rfl := hw2.symm
        go_wp2_with fail
        go_quiet (fail)
        obtain ⟨W1, hW1⟩ : ∃ W1, W1 = w1.drewN nq := ⟨_, rfl⟩
        rw [← hW1]
        have HB2 := Hid.mk (show Below w.heap.size w W1 by rw [hW1]; exact drB HB1.out _)
        obtain ⟨j0, j1, j2, j3, j4, j5, j6, j7, j8⟩ := (show SgAt W1 w.heap.size _ by rw [hW1]; exact HG1.out.kept ⟨rfl, rfl, rfl, Nat.le_refl _, fun _ _ => rfl⟩)
        simp only at j0 j1 j2 j3 j4 j5 j6 j7 j8
        clear hW1 k0 k1 k2 k3 k4 k5 k6 k7 k8 hA' hW' hP'
        go_wp2_with fail
        refine (HS.out _).mono ?_
        rintro e w3 ⟨rfl, hb3⟩
        have HB3 := Hid.mk (bl2 HB2.out hb3)
        clear hb3
        go_wp2_with fail
        refine (HI4.out _).mono ?_
        rintro e w2 ⟨rfl, hw2⟩
        obtain rfl := hw2.symm
        cases e3 with
        | true =>
          go_wp2_with fail
          go_ret2
          exact ⟨rfl, HB3.out⟩
        | false =>
          go_wp2_with fail
          go_ret2
          exact ⟨rfl, HB3.out⟩
      · have hrE : ∀ x : Int, (if ¬ WH.tmod PT = 0 then 4 else x) = 4 := fun x => if_pos hm
        rw [hrE]
        clear hrE
        have hm2 : (WH.tmod PT == 0) = false := by simpa using hm
        have hm3 : (WH.tmod PT != 0) = true := by simpa using hm
        simp only [Int.reduceEq, if_false]
        clear HI4 HS
        go_enter Tryz.func78, Tryz.ntmps78
        go_wp2_with fail
        refine (hC _).mono ?_
        rintro e w1 ⟨rfl, hb1⟩
        have HB1 := Hid.mk (bl2 HB.out hb1)
        have HG1 := Hid.mk (HG.out.kept hb1)
        obtain ⟨k0, k1, k2, k3, k4, k5, k6, k7, k8⟩ := HG1.out
        simp only at k0 k1 k2 k3 k4 k5 k6 k7 k8
        clear hb1 hC
        go_wp2_with fail
        refine (HI1.out _).mono ?_
        rintro e w2 ⟨rfl, hw2⟩
        obtain rfl := hw2.symm
        go_wp2_with fail
        refine (HI2.out _).mono ?_
        rintro e w2 ⟨rfl, hw2⟩
        obtain rfl := hw2.symm
        go_wp2_with fail
        go_quiet (fail)
        clear hA' hW' hP'
        go_wp2_with fail
        go_ret2
        exact ⟨rfl, drB HB1.out _⟩
end Bw
end Go.Proofs.YtlnkhlifkooohaaGreatDoor
