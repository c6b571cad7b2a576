/- SignalApart: two signals that aren't over one another can be written in either order, and each is read then. -/
import Derived.Test.YtgknolliicachaaSgFacts
import Derived.Test.YtgknolliicachaaSgLed
namespace Go.Proofs.Ytgknolliicachaa
open Go.ChangeShapes Go.WideShapes Go.ChangeAt Go.RowKit Go.Sort
namespace Bw
open Sm
set_option maxHeartbeats 32000000 in
set_option maxRecDepth 100000 in
theorem apart_law (s t : Sig) (a : Option Addr) (len cap : Nat) (l : List UInt8) (n m : Int) (w : World) (hs : wfS s) (ht : wfS t) (hD : IsBytes w a len cap l) :
    Calls Try.prog 4 #[sgV s, sgV t, .slice a len cap, .int .i64 n, .int .i64 m] w fun e w' => e = .returned (.bool true) ∧ Below w.heap.size w w' := by
  have HB := Hid.mk (oW0_B w s t)
  have HG := Hid.mk (oW0_s w s t)
  have HT := Hid.mk (oW0_t w s t)
  have HLED := Hid.mk (fun W => signalled_any W)
  have HOV := Hid.mk (fun W => over_spec s t W hs ht)
  have HW1 := Hid.mk (fun a cap l W (h : IsBytes W a len cap l) => swrite_spec s a len cap l n 1 W hs h)
  have HW2 := Hid.mk (fun a cap l W (h : IsBytes W a len cap l) => swrite_spec t a len cap l m 1 W ht h)
  have HV1 := Hid.mk (fun a cap l W st sz (h : IsBytes W a len cap l) hE hR hX => swrite_ok s st sz a len cap l n 1 W hs h hE hR hX)
  have HV2 := Hid.mk (fun a cap l W st sz (h : IsBytes W a len cap l) hE hR hX => swrite_ok t st sz a len cap l m 1 W ht h hE hR hX)
  have HR1 := Hid.mk (fun a cap l W st sz (h : IsBytes W a len cap l) hE hR => sread_ok s st sz a len cap l W hs h hE hR)
  have HR2 := Hid.mk (fun a cap l W st sz (h : IsBytes W a len cap l) hE hR => sread_ok t st sz a len cap l W ht h hE hR)
  have HD := Hid.mk hD
  have HEND := Hid.mk (fun st sz st' sz' hR hR' hl ho hX hX' => apart_end (s := s) (t := t) (st := st) (sz := sz) (st' := st') (sz' := sz') (len := len) hR hR' (l := l) hl ho (n := n) (m := m) hX hX')
  obtain ⟨nm, sta, sza, bk, sg, mu, di, ad, ky⟩ := s
  obtain ⟨nm', sta', sza', bk', sg', mu', di', ad', ky'⟩ := t
  unfold oW0 sgC at HB HG HT
  unfold sgV at HOV HW1 HW2 HV1 HV2 HR1 HR2 ⊢
  simp only at HB HG HT HOV HW1 HW2 HV1 HV2 HR1 HR2 ⊢
  clear hD hs ht
  go_enter Try.func4, Try.ntmps4
  go_wp2_with fail
  refine (HLED.out _).mono ?_
  rintro e w1 ⟨rfl, hb1⟩
  have HB1 := Hid.mk (bl2 HB.out hb1)
  have HG1 := Hid.mk (HG.out.kept hb1)
  have HT1 := Hid.mk (HT.out.kept hb1)
  obtain ⟨c0, c1, c2, c3, c4, c5, c6, c7, c8⟩ := HG1.out
  obtain ⟨d0, d1, d2, d3, d4, d5, d6, d7, d8⟩ := HT1.out
  simp only at c0 c1 c2 c3 c4 c5 c6 c7 c8
  simp only at d0 d1 d2 d3 d4 d5 d6 d7 d8
  clear hb1 HB HG HT
  go_wp2_with fail
  refine (HOV.out _).mono ?_
  rintro e w2 ⟨hb2, hcase⟩
  have HB2 := Hid.mk (bl2 HB1.out hb2)
  have HG2 := Hid.mk (HG1.out.kept hb2)
  have HT2 := Hid.mk (HT1.out.kept hb2)
  have HD2 := Hid.mk (isBytes_below HD.out HB2.out)
  clear hb2 HB1 HG1 HT1 c0 c1 c2 c3 c4 c5 c6 c7 c8 d0 d1 d2 d3 d4 d5 d6 d7 d8 HOV
  rcases hcase with rfl | ⟨rfl, hap⟩
  · go_wp2_with fail
    refine (HLED.out _).mono ?_
    rintro e w3 ⟨rfl, hb3⟩
    go_wp2_with fail
    go_ret
    exact ⟨rfl, bl2 HB2.out hb3⟩
  have HAP := Hid.mk hap
  clear hap HLED
  obtain ⟨c0, c1, c2, c3, c4, c5, c6, c7, c8⟩ := HG2.out
  simp only at c0 c1 c2 c3 c4 c5 c6 c7 c8
  go_wp2_with fail
  refine (HW1.out _ _ _ _ HD2.out).mono ?_
  rintro e w3 ⟨hb3, hcase⟩
  have HB3 := Hid.mk (bl2 HB2.out hb3)
  have HG3 := Hid.mk (HG2.out.kept hb3)
  have HT3 := Hid.mk (HT2.out.kept hb3)
  have HD3 := Hid.mk (isBytes_below HD2.out hb3)
  clear hb3 HB2 HG2 HT2 HD2 c0 c1 c2 c3 c4 c5 c6 c7 c8
  obtain ⟨d0, d1, d2, d3, d4, d5, d6, d7, d8⟩ := HT3.out
  simp only at d0 d1 d2 d3 d4 d5 d6 d7 d8
  rcases hcase with ⟨E, hE0, rfl⟩ | ⟨hE1, st, sz, hR1, hX1, g1, k1, rfl, hown1⟩
  · have hne : (E != 0) = true := by simpa using hE0
    clear hE0
    go_wp2_with fail
    refine (HW2.out _ _ _ _ HD3.out).mono ?_
    rintro e w4 ⟨hb4, hcase⟩
    have HB4 := Hid.mk (bl2 HB3.out hb4)
    clear hb4
    rcases hcase with ⟨E', -, rfl⟩ | ⟨-, -, -, -, -, g2, k2, rfl, -⟩
    · go_wp2_with fail
      go_ret
      exact ⟨rfl, HB4.out⟩
    · go_wp2_with fail
      go_ret
      exact ⟨rfl, HB4.out⟩
  have HE1 := Hid.mk hE1
  have HRT1 := Hid.mk hR1
  have HX1 := Hid.mk hX1
  have HO1 := Hid.mk hown1
  clear hE1 hR1 hX1 hown1
  go_wp2_with fail
  refine (HW2.out _ _ _ _ HD3.out).mono ?_
  rintro e w4 ⟨hb4, hcase⟩
  have HB4 := Hid.mk (bl2 HB3.out hb4)
  have HG4 := Hid.mk (HG3.out.kept hb4)
  have HT4 := Hid.mk (HT3.out.kept hb4)
  have HY1 := Hid.mk (isBytes_below (isBytes_own HO1.out) hb4)
  clear hb4 HB3 HG3 HT3 HD3 HO1 d0 d1 d2 d3 d4 d5 d6 d7 d8 HW1 HW2
  rcases hcase with ⟨E, hE0, rfl⟩ | ⟨hE2, st', sz', hR2, hX2, g2, k2, rfl, hown2⟩
  · have hne : (E != 0) = true := by simpa using hE0
    clear hE0
    go_wp2_with fail
    go_ret
    exact ⟨rfl, HB4.out⟩
  have HE2 := Hid.mk hE2
  have HRT2 := Hid.mk hR2
  have HX2 := Hid.mk hX2
  have HY2 := Hid.mk (isBytes_own hown2)
  clear hE2 hR2 hX2 hown2
  have HAP' := Hid.mk (HAP.out st sz st' sz' _ _ (chk_more HE1.out) (chk_more HE2.out) HRT1.out HRT2.out)
  obtain ⟨d0, d1, d2, d3, d4, d5, d6, d7, d8⟩ := HT4.out
  simp only at d0 d1 d2 d3 d4 d5 d6 d7 d8
  go_wp2_with fail
  refine (HV2.out _ _ _ _ _ _ HY1.out HE2.out HRT2.out HX2.out).mono ?_
  rintro e w5 ⟨g3, k3, rfl, hown3, hb5⟩
  have HB5 := Hid.mk (bl2 HB4.out hb5)
  have HG5 := Hid.mk (HG4.out.kept hb5)
  have HT5 := Hid.mk (HT4.out.kept hb5)
  have HY3 := Hid.mk (isBytes_own hown3)
  have HY2' := Hid.mk (isBytes_below HY2.out hb5)
  clear hb5 hown3 HB4 HG4 HT4 HY2 HY1 d0 d1 d2 d3 d4 d5 d6 d7 d8
  obtain ⟨c0, c1, c2, c3, c4, c5, c6, c7, c8⟩ := HG5.out
  simp only at c0 c1 c2 c3 c4 c5 c6 c7 c8
  go_wp2_with fail
  refine (HV1.out _ _ _ _ _ _ HY2'.out HE1.out HRT1.out HX1.out).mono ?_
  rintro e w6 ⟨g4, k4, rfl, hown4, hb6⟩
  have HB6 := Hid.mk (bl2 HB5.out hb6)
  have HG6 := Hid.mk (HG5.out.kept hb6)
  have HT6 := Hid.mk (HT5.out.kept hb6)
  have HY4 := Hid.mk (isBytes_own hown4)
  have HY3' := Hid.mk (isBytes_below HY3.out hb6)
  clear hb6 hown4 HB5 HG5 HT5 HY3 HY2' c0 c1 c2 c3 c4 c5 c6 c7 c8 HV1 HV2
  obtain ⟨c0, c1, c2, c3, c4, c5, c6, c7, c8⟩ := HG6.out
  simp only at c0 c1 c2 c3 c4 c5 c6 c7 c8
  obtain ⟨e1, ⟨e2, e3⟩, e4, e5⟩ := HEND.out st sz st' sz' HRT1.out HRT2.out HD.out.1 HAP'.out HX1.out HX2.out
  obtain ⟨X, hX, hY⟩ : ∃ X, X = _ ∧ IsBytes w6 (some ⟨g3, 0, none⟩) len k3 X := ⟨_, rfl, HY3'.out⟩
  rw [← hX] at e1 e2 e3 e4 e5
  have HYX := Hid.mk hY
  have hRd1 := fun W h => HR1.out (some ⟨g3, 0, none⟩) k3 X W st sz h HE1.out HRT1.out
  have hRd2 := fun W h => HR2.out (some ⟨g3, 0, none⟩) k3 X W st' sz' h HE2.out HRT2.out
  simp only [e2, e3] at hRd1
  simp only [e4, e5] at hRd2
  have hY4 := HY4.out
  rw [e1] at hY4
  have HY5 := Hid.mk hY4
  have HRD1 := Hid.mk hRd1
  have HRD2 := Hid.mk hRd2
  clear hRd1 hRd2 hY4 e1 e2 e3 e4 e5 HR1 HR2 HEND HY4 HX1 HX2 HE1 HE2 HAP HAP' hX hY HY3'
  unfold rdV at HRD1 HRD2
  generalize rawR _ st sz X = q1 at *
  generalize rawR _ st' sz' X = q2 at *
  go_wp2_with fail
  refine (HRD1.out _ HYX.out).mono ?_
  rintro e w7 ⟨rfl, hb7⟩
  have HB7 := Hid.mk (bl2 HB6.out hb7)
  have HT7 := Hid.mk (HT6.out.kept hb7)
  have HYX7 := Hid.mk (isBytes_below HYX.out hb7)
  have HY57 := Hid.mk (isBytes_below HY5.out hb7)
  have HA7 := Hid.mk (rd_B w7 nm n 1)
  have HZ7 := Hid.mk (rd_at w7 nm n 1)
  have HT8 := Hid.mk (HT7.out.kept HA7.out)
  have HYX8 := Hid.mk (isBytes_below HYX7.out HA7.out)
  unfold rdC at HA7 HZ7 HT8 HYX8
  clear hb7 HB6 HT6 HYX HY5 HG6 c0 c1 c2 c3 c4 c5 c6 c7 c8 HRD1
  obtain ⟨d0, d1, d2, d3, d4, d5, d6, d7, d8⟩ := HT8.out
  simp only at d0 d1 d2 d3 d4 d5 d6 d7 d8
  go_wp2_with fail
  refine (HRD2.out _ HYX8.out).mono ?_
  rintro e w8 ⟨rfl, hb8⟩
  have HB8 := Hid.mk (bl2 HB7.out (bl2 HA7.out hb8))
  have HZ8 := Hid.mk (HZ7.out.kept hb8)
  have HYX9 := Hid.mk (isBytes_below HYX8.out hb8)
  have HY59 := Hid.mk (isBytes_below HY57.out (bl2 HA7.out hb8))
  have HA9 := Hid.mk (rd_B w8 nm' m 1)
  have HZ9 := Hid.mk (HZ8.out.kept HA9.out)
  have HQ := Hid.mk (equalB_true (w8.alloc (rdC nm' m 1)) (some ⟨g3, 0, none⟩) (some ⟨g4, 0, none⟩) len k3 k4 X (by have := HD.out.2.1; have := HD.out.2.2.1; omega) (hasB (isBytes_below HYX9.out HA9.out)) (hasB (isBytes_below HY59.out HA9.out)))
  have HZ10 := Hid.mk (rd_at w8 nm' m 1)
  unfold rdC at HA9 HQ HZ9 HZ10
  clear hb8 d0 d1 d2 d3 d4 d5 d6 d7 d8 HRD2 HB7 HZ7 HT7 HT8 HYX7 HYX8 HY57
  go_wp2_with fail
  refine HQ.out.mono ?_
  rintro e w9 ⟨rfl, hb9⟩
  obtain ⟨⟨p0, p1, p2⟩, -, -, -⟩ := (HZ9.out.kept hb9).cells
  obtain ⟨⟨q0, q1', q2'⟩, -, -, -⟩ := (HZ10.out.kept hb9).cells
  have HB9 := Hid.mk (bl2 HB8.out (bl2 HA9.out hb9))
  clear hb9
  go_wp2_with fail
  go_ret
  exact ⟨by simp, HB9.out⟩
end Bw
end Go.Proofs.Ytgknolliicachaa
