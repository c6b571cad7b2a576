/- SignalPlaces: of any signal it is told whether it is one, where its bits lie, and whether it lies over another one, as the document says. -/
import Derived.Test.YtgknolliicachaaDoorRsCheck
import Derived.Test.YtgknolliicachaaDoorRsOver
import Derived.Test.YtgknolliicachaaDoorSgLed
import Derived.Test.YtgknolliicachaaDoorSgFacts
import Derived.Test.YtgknolliicachaaDoorEqualN
namespace Go.Proofs.YtgknolliicachaaDoor
open Go.ChangeShapes Go.WideShapes Go.ChangeAt Go.RowKit Go.Sort
namespace Bw
open Sm
theorem slice_of_own {w : World} {base sz : Nat} {v : Value} {xs : List Int} (h : w.ownsRow base 3 1 v sz (pnC xs)) (h1 : 1 ≤ sz) : ∃ g c, v = .slice (some ⟨g, 0, none⟩) sz c ∧ NumsAt w g 0 xs := by
  have h0 := h
  obtain ⟨hl, h2⟩ := h
  rcases h2 with ⟨rfl, h3⟩ | ⟨g, c, cur, rfl, _⟩
  · omega
  · exact ⟨g, c, rfl, nums_own h0⟩
set_option maxHeartbeats 16000000 in
set_option maxRecDepth 100000 in
theorem places_1 (s t : Sig) (size : Int) (nt : ByteArray) (w : World) (hs : wfS s) (ht : wfS t) (hnt : nt.size ≤ 9223372036854775807) (hE : chkS s size ≠ 0) (hA : chkS s 64 ≠ 0) :
    Calls Tryd.prog 3 #[sgV s, sgV t, .int .i64 size, .string nt] w fun e w' => e = .returned (.bool true) ∧ Below w.heap.size w w' := by
  have HB := Hid.mk (oW0_B w s t)
  have HG := Hid.mk (oW0_s w s t)
  have HT := Hid.mk (oW0_t w s t)
  have HLED := Hid.mk (fun W => signalled_any W)
  have HN1 := Hid.mk (fun W => sname_any nt W hnt)
  have HN2 := Hid.mk (fun W => isName_any nt W hnt)
  have hRE := fun W => checkSignal_any s size W hs
  have hSE := fun W => scheck_any s size W hs
  have hRA := fun W => checkSignal_any s 64 W hs
  have hRB := fun W => checkSignal_any t 64 W ht
  have hP := fun W => places_bad s size W hs hE
  have hne : (chkS s size != 0) = true := by simpa using hE
  have hO := fun W => over_bad s t W hs ht (.inl hA)
  have hnA : (chkS s 64 == 0) = false := by simpa using hA
  generalize chkS s 64 = EA at *
  generalize chkS s size = EE at *
  generalize nameB nt.data.toList = nb at *
  obtain ⟨nm, sta, sza, bk, sg, mu, di, ad, ky⟩ := s
  obtain ⟨nm', sta', sza', bk', sg', mu', di', ad', ky'⟩ := t
  unfold oW0 sgC at HB HG HT
  unfold sgV at hRE hSE hRA hRB hP hO ⊢
  simp only at HB HG HT hRE hSE hRA hRB hP hO ⊢
  have HRE := Hid.mk hRE
  have HSE := Hid.mk hSE
  have HRA := Hid.mk hRA
  have HRB := Hid.mk hRB
  have HP := Hid.mk hP
  have HO := Hid.mk hO
  clear hs ht hnt hRE hSE hRA hRB hP hO hE hA
  go_enter Tryd.func3, Tryd.ntmps3
  go_wp2_with fail
  refine (HP.out _).mono ?_
  rintro e w1 ⟨rfl, hb⟩
  have HB1 := Hid.mk (bl2 HB.out hb)
  have HG1 := Hid.mk (HG.out.kept hb)
  have HT1 := Hid.mk (HT.out.kept hb)
  clear hb HB HG HT
  obtain ⟨c0, c1, c2, c3, c4, c5, c6, c7, c8⟩ := HG1.out
  simp only at c0 c1 c2 c3 c4 c5 c6 c7 c8
  go_wp2_with fail
  refine (HRE.out _).mono ?_
  rintro e w2 ⟨rfl, hb⟩
  have HB2 := Hid.mk (bl2 HB1.out hb)
  have HG2 := Hid.mk (HG1.out.kept hb)
  have HT2 := Hid.mk (HT1.out.kept hb)
  clear hb HB1 HG1 HT1
  clear c0 c1 c2 c3 c4 c5 c6 c7 c8
  go_wp2_with fail
  refine (HLED.out _).mono ?_
  rintro e w3 ⟨rfl, hb⟩
  have HB3 := Hid.mk (bl2 HB2.out hb)
  have HG3 := Hid.mk (HG2.out.kept hb)
  have HT3 := Hid.mk (HT2.out.kept hb)
  clear hb HB2 HG2 HT2
  obtain ⟨c0, c1, c2, c3, c4, c5, c6, c7, c8⟩ := HG3.out
  simp only at c0 c1 c2 c3 c4 c5 c6 c7 c8
  go_wp2_with fail
  refine (HSE.out _).mono ?_
  rintro e w4 ⟨rfl, hb⟩
  have HB4 := Hid.mk (bl2 HB3.out hb)
  have HG4 := Hid.mk (HG3.out.kept hb)
  have HT4 := Hid.mk (HT3.out.kept hb)
  clear hb HB3 HG3 HT3
  clear c0 c1 c2 c3 c4 c5 c6 c7 c8
  go_wp2_with fail
  refine (HN1.out _).mono ?_
  rintro e vv ⟨rfl, hvv⟩
  obtain rfl := hvv.symm
  go_wp2_with fail
  refine (HN2.out _).mono ?_
  rintro e w5 ⟨rfl, hb⟩
  have HB5 := Hid.mk (bl2 HB4.out hb)
  have HG5 := Hid.mk (HG4.out.kept hb)
  have HT5 := Hid.mk (HT4.out.kept hb)
  clear hb HB4 HG4 HT4
  obtain ⟨c0, c1, c2, c3, c4, c5, c6, c7, c8⟩ := HG5.out
  simp only at c0 c1 c2 c3 c4 c5 c6 c7 c8
  go_wp2_with fail
  refine (HRA.out _).mono ?_
  rintro e w6 ⟨rfl, hb⟩
  have HB6 := Hid.mk (bl2 HB5.out hb)
  have HG6 := Hid.mk (HG5.out.kept hb)
  have HT6 := Hid.mk (HT5.out.kept hb)
  clear hb HB5 HG5 HT5
  clear c0 c1 c2 c3 c4 c5 c6 c7 c8
  obtain ⟨c0, c1, c2, c3, c4, c5, c6, c7, c8⟩ := HG6.out
  simp only at c0 c1 c2 c3 c4 c5 c6 c7 c8
  obtain ⟨d0, d1, d2, d3, d4, d5, d6, d7, d8⟩ := HT6.out
  simp only at d0 d1 d2 d3 d4 d5 d6 d7 d8
  go_wp2_with fail
  refine (HO.out _).mono ?_
  rintro e w7 ⟨rfl, hb⟩
  have HB7 := Hid.mk (bl2 HB6.out hb)
  have HG7 := Hid.mk (HG6.out.kept hb)
  have HT7 := Hid.mk (HT6.out.kept hb)
  clear hb HB6 HG6 HT6
  clear c0 c1 c2 c3 c4 c5 c6 c7 c8
  clear d0 d1 d2 d3 d4 d5 d6 d7 d8
  go_wp2_with fail
  go_ret
  exact ⟨by first | rfl | simp, HB7.out⟩
set_option maxHeartbeats 16000000 in
set_option maxRecDepth 100000 in
theorem places_2 (s t : Sig) (size : Int) (nt : ByteArray) (w : World) (hs : wfS s) (ht : wfS t) (hnt : nt.size ≤ 9223372036854775807) (hE : chkS s size ≠ 0) (hA : chkS s 64 = 0) (hB : chkS t 64 ≠ 0) :
    Calls Tryd.prog 3 #[sgV s, sgV t, .int .i64 size, .string nt] w fun e w' => e = .returned (.bool true) ∧ Below w.heap.size w w' := by
  have HB := Hid.mk (oW0_B w s t)
  have HG := Hid.mk (oW0_s w s t)
  have HT := Hid.mk (oW0_t w s t)
  have HLED := Hid.mk (fun W => signalled_any W)
  have HN1 := Hid.mk (fun W => sname_any nt W hnt)
  have HN2 := Hid.mk (fun W => isName_any nt W hnt)
  have hRE := fun W => checkSignal_any s size W hs
  have hSE := fun W => scheck_any s size W hs
  have hRA := fun W => checkSignal_any s 64 W hs
  have hRB := fun W => checkSignal_any t 64 W ht
  have hP := fun W => places_bad s size W hs hE
  have hne : (chkS s size != 0) = true := by simpa using hE
  have hO := fun W => over_bad s t W hs ht (.inr hB)
  rw [hA] at hRA
  have hnB : (chkS t 64 == 0) = false := by simpa using hB
  generalize chkS t 64 = EB at *
  generalize chkS s size = EE at *
  generalize nameB nt.data.toList = nb at *
  obtain ⟨nm, sta, sza, bk, sg, mu, di, ad, ky⟩ := s
  obtain ⟨nm', sta', sza', bk', sg', mu', di', ad', ky'⟩ := t
  unfold oW0 sgC at HB HG HT
  unfold sgV at hRE hSE hRA hRB hP hO ⊢
  simp only at HB HG HT hRE hSE hRA hRB hP hO ⊢
  have HRE := Hid.mk hRE
  have HSE := Hid.mk hSE
  have HRA := Hid.mk hRA
  have HRB := Hid.mk hRB
  have HP := Hid.mk hP
  have HO := Hid.mk hO
  clear hs ht hnt hRE hSE hRA hRB hP hO hE hA hB
  go_enter Tryd.func3, Tryd.ntmps3
  go_wp2_with fail
  refine (HP.out _).mono ?_
  rintro e w1 ⟨rfl, hb⟩
  have HB1 := Hid.mk (bl2 HB.out hb)
  have HG1 := Hid.mk (HG.out.kept hb)
  have HT1 := Hid.mk (HT.out.kept hb)
  clear hb HB HG HT
  obtain ⟨c0, c1, c2, c3, c4, c5, c6, c7, c8⟩ := HG1.out
  simp only at c0 c1 c2 c3 c4 c5 c6 c7 c8
  go_wp2_with fail
  refine (HRE.out _).mono ?_
  rintro e w2 ⟨rfl, hb⟩
  have HB2 := Hid.mk (bl2 HB1.out hb)
  have HG2 := Hid.mk (HG1.out.kept hb)
  have HT2 := Hid.mk (HT1.out.kept hb)
  clear hb HB1 HG1 HT1
  clear c0 c1 c2 c3 c4 c5 c6 c7 c8
  go_wp2_with fail
  refine (HLED.out _).mono ?_
  rintro e w3 ⟨rfl, hb⟩
  have HB3 := Hid.mk (bl2 HB2.out hb)
  have HG3 := Hid.mk (HG2.out.kept hb)
  have HT3 := Hid.mk (HT2.out.kept hb)
  clear hb HB2 HG2 HT2
  obtain ⟨c0, c1, c2, c3, c4, c5, c6, c7, c8⟩ := HG3.out
  simp only at c0 c1 c2 c3 c4 c5 c6 c7 c8
  go_wp2_with fail
  refine (HSE.out _).mono ?_
  rintro e w4 ⟨rfl, hb⟩
  have HB4 := Hid.mk (bl2 HB3.out hb)
  have HG4 := Hid.mk (HG3.out.kept hb)
  have HT4 := Hid.mk (HT3.out.kept hb)
  clear hb HB3 HG3 HT3
  clear c0 c1 c2 c3 c4 c5 c6 c7 c8
  go_wp2_with fail
  refine (HN1.out _).mono ?_
  rintro e vv ⟨rfl, hvv⟩
  obtain rfl := hvv.symm
  go_wp2_with fail
  refine (HN2.out _).mono ?_
  rintro e w5 ⟨rfl, hb⟩
  have HB5 := Hid.mk (bl2 HB4.out hb)
  have HG5 := Hid.mk (HG4.out.kept hb)
  have HT5 := Hid.mk (HT4.out.kept hb)
  clear hb HB4 HG4 HT4
  obtain ⟨c0, c1, c2, c3, c4, c5, c6, c7, c8⟩ := HG5.out
  simp only at c0 c1 c2 c3 c4 c5 c6 c7 c8
  go_wp2_with fail
  refine (HRA.out _).mono ?_
  rintro e w6 ⟨rfl, hb⟩
  have HB6 := Hid.mk (bl2 HB5.out hb)
  have HG6 := Hid.mk (HG5.out.kept hb)
  have HT6 := Hid.mk (HT5.out.kept hb)
  clear hb HB5 HG5 HT5
  clear c0 c1 c2 c3 c4 c5 c6 c7 c8
  obtain ⟨d0, d1, d2, d3, d4, d5, d6, d7, d8⟩ := HT6.out
  simp only at d0 d1 d2 d3 d4 d5 d6 d7 d8
  go_wp2_with fail
  refine (HRB.out _).mono ?_
  rintro e w7 ⟨rfl, hb⟩
  have HB7 := Hid.mk (bl2 HB6.out hb)
  have HG7 := Hid.mk (HG6.out.kept hb)
  have HT7 := Hid.mk (HT6.out.kept hb)
  clear hb HB6 HG6 HT6
  clear d0 d1 d2 d3 d4 d5 d6 d7 d8
  obtain ⟨c0, c1, c2, c3, c4, c5, c6, c7, c8⟩ := HG7.out
  simp only at c0 c1 c2 c3 c4 c5 c6 c7 c8
  obtain ⟨d0, d1, d2, d3, d4, d5, d6, d7, d8⟩ := HT7.out
  simp only at d0 d1 d2 d3 d4 d5 d6 d7 d8
  go_wp2_with fail
  refine (HO.out _).mono ?_
  rintro e w8 ⟨rfl, hb⟩
  have HB8 := Hid.mk (bl2 HB7.out hb)
  have HG8 := Hid.mk (HG7.out.kept hb)
  have HT8 := Hid.mk (HT7.out.kept hb)
  clear hb HB7 HG7 HT7
  clear c0 c1 c2 c3 c4 c5 c6 c7 c8
  clear d0 d1 d2 d3 d4 d5 d6 d7 d8
  go_wp2_with fail
  go_ret
  exact ⟨by first | rfl | simp, HB8.out⟩
set_option maxHeartbeats 16000000 in
set_option maxRecDepth 100000 in
theorem places_3 (s t : Sig) (size : Int) (nt : ByteArray) (w : World) (hs : wfS s) (ht : wfS t) (hnt : nt.size ≤ 9223372036854775807) (hE : chkS s size ≠ 0) (hA : chkS s 64 = 0) (hB : chkS t 64 = 0) :
    Calls Tryd.prog 3 #[sgV s, sgV t, .int .i64 size, .string nt] w fun e w' => e = .returned (.bool true) ∧ Below w.heap.size w w' := by
  have HB := Hid.mk (oW0_B w s t)
  have HG := Hid.mk (oW0_s w s t)
  have HT := Hid.mk (oW0_t w s t)
  have HLED := Hid.mk (fun W => signalled_any W)
  have HN1 := Hid.mk (fun W => sname_any nt W hnt)
  have HN2 := Hid.mk (fun W => isName_any nt W hnt)
  have hRE := fun W => checkSignal_any s size W hs
  have hSE := fun W => scheck_any s size W hs
  have hRA := fun W => checkSignal_any s 64 W hs
  have hRB := fun W => checkSignal_any t 64 W ht
  have hP := fun W => places_bad s size W hs hE
  have hne : (chkS s size != 0) = true := by simpa using hE
  obtain ⟨st, sz, hR64⟩ := right_of (n := 64) hA
  have h1 := hR64.s1
  have h40 := hR64.s40
  obtain ⟨st', sz', hR'⟩ := right_of (n := 64) hB
  have hO := fun W => over_ok s t st sz st' sz' W hs ht hA hB hR64 hR'
  have hRO := fun W => overOf_any s t st sz st' sz' W hR64.hst hR64.hsz (by have := hR64.st_lt; omega) h1 h40 hR'.hst hR'.hsz (by have := hR'.st_lt; omega) hR'.s1 hR'.s40
  generalize ovN s.bk st sz t.bk st' sz' = ov at *
  rw [hA] at hRA
  rw [hB] at hRB
  generalize chkS s size = EE at *
  generalize nameB nt.data.toList = nb at *
  obtain ⟨nm, sta, sza, bk, sg, mu, di, ad, ky⟩ := s
  obtain ⟨nm', sta', sza', bk', sg', mu', di', ad', ky'⟩ := t
  unfold oW0 sgC at HB HG HT
  unfold sgV at hRE hSE hRA hRB hP hO hRO ⊢
  simp only at HB HG HT hRE hSE hRA hRB hP hO hRO ⊢
  have HRE := Hid.mk hRE
  have HSE := Hid.mk hSE
  have HRA := Hid.mk hRA
  have HRB := Hid.mk hRB
  have HP := Hid.mk hP
  have HO := Hid.mk hO
  have HRO := Hid.mk hRO
  clear hs ht hnt hRE hSE hRA hRB hP hO hRO hE hA hB hR64 hR'
  go_enter Tryd.func3, Tryd.ntmps3
  go_wp2_with fail
  refine (HP.out _).mono ?_
  rintro e w1 ⟨rfl, hb⟩
  have HB1 := Hid.mk (bl2 HB.out hb)
  have HG1 := Hid.mk (HG.out.kept hb)
  have HT1 := Hid.mk (HT.out.kept hb)
  clear hb HB HG HT
  obtain ⟨c0, c1, c2, c3, c4, c5, c6, c7, c8⟩ := HG1.out
  simp only at c0 c1 c2 c3 c4 c5 c6 c7 c8
  go_wp2_with fail
  refine (HRE.out _).mono ?_
  rintro e w2 ⟨rfl, hb⟩
  have HB2 := Hid.mk (bl2 HB1.out hb)
  have HG2 := Hid.mk (HG1.out.kept hb)
  have HT2 := Hid.mk (HT1.out.kept hb)
  clear hb HB1 HG1 HT1
  clear c0 c1 c2 c3 c4 c5 c6 c7 c8
  go_wp2_with fail
  refine (HLED.out _).mono ?_
  rintro e w3 ⟨rfl, hb⟩
  have HB3 := Hid.mk (bl2 HB2.out hb)
  have HG3 := Hid.mk (HG2.out.kept hb)
  have HT3 := Hid.mk (HT2.out.kept hb)
  clear hb HB2 HG2 HT2
  obtain ⟨c0, c1, c2, c3, c4, c5, c6, c7, c8⟩ := HG3.out
  simp only at c0 c1 c2 c3 c4 c5 c6 c7 c8
  go_wp2_with fail
  refine (HSE.out _).mono ?_
  rintro e w4 ⟨rfl, hb⟩
  have HB4 := Hid.mk (bl2 HB3.out hb)
  have HG4 := Hid.mk (HG3.out.kept hb)
  have HT4 := Hid.mk (HT3.out.kept hb)
  clear hb HB3 HG3 HT3
  clear c0 c1 c2 c3 c4 c5 c6 c7 c8
  go_wp2_with fail
  refine (HN1.out _).mono ?_
  rintro e vv ⟨rfl, hvv⟩
  obtain rfl := hvv.symm
  go_wp2_with fail
  refine (HN2.out _).mono ?_
  rintro e w5 ⟨rfl, hb⟩
  have HB5 := Hid.mk (bl2 HB4.out hb)
  have HG5 := Hid.mk (HG4.out.kept hb)
  have HT5 := Hid.mk (HT4.out.kept hb)
  clear hb HB4 HG4 HT4
  obtain ⟨c0, c1, c2, c3, c4, c5, c6, c7, c8⟩ := HG5.out
  simp only at c0 c1 c2 c3 c4 c5 c6 c7 c8
  go_wp2_with fail
  refine (HRA.out _).mono ?_
  rintro e w6 ⟨rfl, hb⟩
  have HB6 := Hid.mk (bl2 HB5.out hb)
  have HG6 := Hid.mk (HG5.out.kept hb)
  have HT6 := Hid.mk (HT5.out.kept hb)
  clear hb HB5 HG5 HT5
  clear c0 c1 c2 c3 c4 c5 c6 c7 c8
  obtain ⟨d0, d1, d2, d3, d4, d5, d6, d7, d8⟩ := HT6.out
  simp only at d0 d1 d2 d3 d4 d5 d6 d7 d8
  go_wp2_with fail
  refine (HRB.out _).mono ?_
  rintro e w7 ⟨rfl, hb⟩
  have HB7 := Hid.mk (bl2 HB6.out hb)
  have HG7 := Hid.mk (HG6.out.kept hb)
  have HT7 := Hid.mk (HT6.out.kept hb)
  clear hb HB6 HG6 HT6
  clear d0 d1 d2 d3 d4 d5 d6 d7 d8
  obtain ⟨c0, c1, c2, c3, c4, c5, c6, c7, c8⟩ := HG7.out
  simp only at c0 c1 c2 c3 c4 c5 c6 c7 c8
  obtain ⟨d0, d1, d2, d3, d4, d5, d6, d7, d8⟩ := HT7.out
  simp only at d0 d1 d2 d3 d4 d5 d6 d7 d8
  go_wp2_with fail
  refine (HO.out _).mono ?_
  rintro e w8 ⟨rfl, hb⟩
  have HB8 := Hid.mk (bl2 HB7.out hb)
  have HG8 := Hid.mk (HG7.out.kept hb)
  have HT8 := Hid.mk (HT7.out.kept hb)
  clear hb HB7 HG7 HT7
  clear c0 c1 c2 c3 c4 c5 c6 c7 c8
  clear d0 d1 d2 d3 d4 d5 d6 d7 d8
  obtain ⟨c0, c1, c2, c3, c4, c5, c6, c7, c8⟩ := HG8.out
  simp only at c0 c1 c2 c3 c4 c5 c6 c7 c8
  obtain ⟨d0, d1, d2, d3, d4, d5, d6, d7, d8⟩ := HT8.out
  simp only at d0 d1 d2 d3 d4 d5 d6 d7 d8
  go_wp2_with fail
  refine (HRO.out _).mono ?_
  rintro e w9 ⟨rfl, hb⟩
  have HB9 := Hid.mk (bl2 HB8.out hb)
  have HG9 := Hid.mk (HG8.out.kept hb)
  have HT9 := Hid.mk (HT8.out.kept hb)
  clear hb HB8 HG8 HT8
  clear c0 c1 c2 c3 c4 c5 c6 c7 c8
  clear d0 d1 d2 d3 d4 d5 d6 d7 d8
  go_wp2_with fail
  go_ret
  exact ⟨by first | rfl | simp, HB9.out⟩
set_option maxHeartbeats 16000000 in
set_option maxRecDepth 100000 in
theorem places_4 (s t : Sig) (size : Int) (nt : ByteArray) (w : World) (hs : wfS s) (ht : wfS t) (hnt : nt.size ≤ 9223372036854775807) (hE : chkS s size = 0) (hA : chkS s 64 = 0) (hB : chkS t 64 ≠ 0) :
    Calls Tryd.prog 3 #[sgV s, sgV t, .int .i64 size, .string nt] w fun e w' => e = .returned (.bool true) ∧ Below w.heap.size w w' := by
  have HB := Hid.mk (oW0_B w s t)
  have HG := Hid.mk (oW0_s w s t)
  have HT := Hid.mk (oW0_t w s t)
  have HLED := Hid.mk (fun W => signalled_any W)
  have HN1 := Hid.mk (fun W => sname_any nt W hnt)
  have HN2 := Hid.mk (fun W => isName_any nt W hnt)
  have hRE := fun W => checkSignal_any s size W hs
  have hSE := fun W => scheck_any s size W hs
  have hRA := fun W => checkSignal_any s 64 W hs
  have hRB := fun W => checkSignal_any t 64 W ht
  obtain ⟨nn, rfl⟩ : ∃ n : Nat, size = n := ⟨size.toNat, by have := (chk_size hE).2.1; omega⟩
  obtain ⟨st, sz, hR⟩ := right_of hE
  have h1 := hR.s1
  have h40 := hR.s40
  have hP := fun W => places_ok s st sz nn nn W hs hE hR
  have HPL := Hid.mk (fun W => placesOf_any s st sz W hR.hst hR.hsz (by have := hR.st_lt; have := hR.n64; omega) h1 h40)
  rw [hE] at hRE hSE
  have hO := fun W => over_bad s t W hs ht (.inr hB)
  rw [hA] at hRA
  have hnB : (chkS t 64 == 0) = false := by simpa using hB
  generalize chkS t 64 = EB at *
  generalize nameB nt.data.toList = nb at *
  have HLX := Hid.mk (plsL_length s.bk st sz sz)
  generalize plsL s.bk st sz sz = xs at *
  obtain ⟨nm, sta, sza, bk, sg, mu, di, ad, ky⟩ := s
  obtain ⟨nm', sta', sza', bk', sg', mu', di', ad', ky'⟩ := t
  unfold oW0 sgC at HB HG HT
  unfold sgV at hRE hSE hRA hRB hP hO HPL ⊢
  simp only at HB HG HT hRE hSE hRA hRB hP hO HPL ⊢
  have HRE := Hid.mk hRE
  have HSE := Hid.mk hSE
  have HRA := Hid.mk hRA
  have HRB := Hid.mk hRB
  have HP := Hid.mk hP
  have HO := Hid.mk hO
  clear hs ht hnt hRE hSE hRA hRB hP hO hE hA hB hR
  go_enter Tryd.func3, Tryd.ntmps3
  go_wp2_with fail
  refine (HP.out _).mono ?_
  rintro e w1 ⟨v, rfl, hown, hb⟩
  have HB1 := Hid.mk (bl2 HB.out hb)
  have HG1 := Hid.mk (HG.out.kept hb)
  have HT1 := Hid.mk (HT.out.kept hb)
  obtain ⟨g, cv, rfl, hnu⟩ := slice_of_own hown h1
  have HNU1 := Hid.mk hnu
  clear hown hnu
  clear hb HB HG HT
  obtain ⟨c0, c1, c2, c3, c4, c5, c6, c7, c8⟩ := HG1.out
  simp only at c0 c1 c2 c3 c4 c5 c6 c7 c8
  go_wp2_with fail
  refine (HRE.out _).mono ?_
  rintro e w2 ⟨rfl, hb⟩
  have HB2 := Hid.mk (bl2 HB1.out hb)
  have HG2 := Hid.mk (HG1.out.kept hb)
  have HT2 := Hid.mk (HT1.out.kept hb)
  have HNU2 := Hid.mk (HNU1.out.kept hb)
  clear hb HB1 HG1 HT1
  clear c0 c1 c2 c3 c4 c5 c6 c7 c8
  go_wp2_with fail
  refine (HLED.out _).mono ?_
  rintro e w3 ⟨rfl, hb⟩
  have HB3 := Hid.mk (bl2 HB2.out hb)
  have HG3 := Hid.mk (HG2.out.kept hb)
  have HT3 := Hid.mk (HT2.out.kept hb)
  have HNU3 := Hid.mk (HNU2.out.kept hb)
  clear hb HB2 HG2 HT2
  obtain ⟨c0, c1, c2, c3, c4, c5, c6, c7, c8⟩ := HG3.out
  simp only at c0 c1 c2 c3 c4 c5 c6 c7 c8
  go_wp2_with fail
  refine (HSE.out _).mono ?_
  rintro e w4 ⟨rfl, hb⟩
  have HB4 := Hid.mk (bl2 HB3.out hb)
  have HG4 := Hid.mk (HG3.out.kept hb)
  have HT4 := Hid.mk (HT3.out.kept hb)
  have HNU4 := Hid.mk (HNU3.out.kept hb)
  clear hb HB3 HG3 HT3
  clear c0 c1 c2 c3 c4 c5 c6 c7 c8
  go_wp2_with fail
  refine (HN1.out _).mono ?_
  rintro e vv ⟨rfl, hvv⟩
  obtain rfl := hvv.symm
  go_wp2_with fail
  refine (HN2.out _).mono ?_
  rintro e w5 ⟨rfl, hb⟩
  have HB5 := Hid.mk (bl2 HB4.out hb)
  have HG5 := Hid.mk (HG4.out.kept hb)
  have HT5 := Hid.mk (HT4.out.kept hb)
  have HNU5 := Hid.mk (HNU4.out.kept hb)
  clear hb HB4 HG4 HT4
  obtain ⟨c0, c1, c2, c3, c4, c5, c6, c7, c8⟩ := HG5.out
  simp only at c0 c1 c2 c3 c4 c5 c6 c7 c8
  go_wp2_with fail
  refine (HRA.out _).mono ?_
  rintro e w6 ⟨rfl, hb⟩
  have HB6 := Hid.mk (bl2 HB5.out hb)
  have HG6 := Hid.mk (HG5.out.kept hb)
  have HT6 := Hid.mk (HT5.out.kept hb)
  have HNU6 := Hid.mk (HNU5.out.kept hb)
  clear hb HB5 HG5 HT5
  clear c0 c1 c2 c3 c4 c5 c6 c7 c8
  obtain ⟨d0, d1, d2, d3, d4, d5, d6, d7, d8⟩ := HT6.out
  simp only at d0 d1 d2 d3 d4 d5 d6 d7 d8
  go_wp2_with fail
  refine (HRB.out _).mono ?_
  rintro e w7 ⟨rfl, hb⟩
  have HB7 := Hid.mk (bl2 HB6.out hb)
  have HG7 := Hid.mk (HG6.out.kept hb)
  have HT7 := Hid.mk (HT6.out.kept hb)
  have HNU7 := Hid.mk (HNU6.out.kept hb)
  clear hb HB6 HG6 HT6
  clear d0 d1 d2 d3 d4 d5 d6 d7 d8
  obtain ⟨c0, c1, c2, c3, c4, c5, c6, c7, c8⟩ := HG7.out
  simp only at c0 c1 c2 c3 c4 c5 c6 c7 c8
  obtain ⟨d0, d1, d2, d3, d4, d5, d6, d7, d8⟩ := HT7.out
  simp only at d0 d1 d2 d3 d4 d5 d6 d7 d8
  go_wp2_with fail
  refine (HO.out _).mono ?_
  rintro e w8 ⟨rfl, hb⟩
  have HB8 := Hid.mk (bl2 HB7.out hb)
  have HG8 := Hid.mk (HG7.out.kept hb)
  have HT8 := Hid.mk (HT7.out.kept hb)
  have HNU8 := Hid.mk (HNU7.out.kept hb)
  clear hb HB7 HG7 HT7
  clear c0 c1 c2 c3 c4 c5 c6 c7 c8
  clear d0 d1 d2 d3 d4 d5 d6 d7 d8
  obtain ⟨c0, c1, c2, c3, c4, c5, c6, c7, c8⟩ := HG8.out
  simp only at c0 c1 c2 c3 c4 c5 c6 c7 c8
  go_wp2_with fail
  refine (HPL.out _).mono ?_
  rintro e w9 ⟨g2, rfl, hg2, hown2, hb⟩
  have HB9 := Hid.mk (bl2 HB8.out hb)
  have HG9 := Hid.mk (HG8.out.kept hb)
  have HT9 := Hid.mk (HT8.out.kept hb)
  have HNU9 := Hid.mk (HNU8.out.kept hb)
  have HN9 := Hid.mk (nums_own hown2)
  clear hown2 hg2
  clear hb HB8 HG8 HT8
  clear c0 c1 c2 c3 c4 c5 c6 c7 c8
  go_wp2_with fail
  refine (equalN_true w9 g g2 sz cv sz xs HLX.out (by omega) HNU9.out HN9.out).mono ?_
  rintro e wz ⟨rfl, hbz⟩
  go_wp2_with fail
  go_ret
  exact ⟨rfl, bl2 HB9.out hbz⟩
set_option maxHeartbeats 16000000 in
set_option maxRecDepth 100000 in
theorem places_5 (s t : Sig) (size : Int) (nt : ByteArray) (w : World) (hs : wfS s) (ht : wfS t) (hnt : nt.size ≤ 9223372036854775807) (hE : chkS s size = 0) (hA : chkS s 64 = 0) (hB : chkS t 64 = 0) :
    Calls Tryd.prog 3 #[sgV s, sgV t, .int .i64 size, .string nt] w fun e w' => e = .returned (.bool true) ∧ Below w.heap.size w w' := by
  have HB := Hid.mk (oW0_B w s t)
  have HG := Hid.mk (oW0_s w s t)
  have HT := Hid.mk (oW0_t w s t)
  have HLED := Hid.mk (fun W => signalled_any W)
  have HN1 := Hid.mk (fun W => sname_any nt W hnt)
  have HN2 := Hid.mk (fun W => isName_any nt W hnt)
  have hRE := fun W => checkSignal_any s size W hs
  have hSE := fun W => scheck_any s size W hs
  have hRA := fun W => checkSignal_any s 64 W hs
  have hRB := fun W => checkSignal_any t 64 W ht
  obtain ⟨nn, rfl⟩ : ∃ n : Nat, size = n := ⟨size.toNat, by have := (chk_size hE).2.1; omega⟩
  obtain ⟨st, sz, hR⟩ := right_of hE
  have h1 := hR.s1
  have h40 := hR.s40
  have hP := fun W => places_ok s st sz nn nn W hs hE hR
  have HPL := Hid.mk (fun W => placesOf_any s st sz W hR.hst hR.hsz (by have := hR.st_lt; have := hR.n64; omega) h1 h40)
  rw [hE] at hRE hSE
  have hR64 := hR.more hR.n64 (Nat.le_refl _)
  obtain ⟨st', sz', hR'⟩ := right_of (n := 64) hB
  have hO := fun W => over_ok s t st sz st' sz' W hs ht hA hB hR64 hR'
  have hRO := fun W => overOf_any s t st sz st' sz' W hR64.hst hR64.hsz (by have := hR64.st_lt; omega) h1 h40 hR'.hst hR'.hsz (by have := hR'.st_lt; omega) hR'.s1 hR'.s40
  generalize ovN s.bk st sz t.bk st' sz' = ov at *
  rw [hA] at hRA
  rw [hB] at hRB
  generalize nameB nt.data.toList = nb at *
  have HLX := Hid.mk (plsL_length s.bk st sz sz)
  generalize plsL s.bk st sz sz = xs at *
  obtain ⟨nm, sta, sza, bk, sg, mu, di, ad, ky⟩ := s
  obtain ⟨nm', sta', sza', bk', sg', mu', di', ad', ky'⟩ := t
  unfold oW0 sgC at HB HG HT
  unfold sgV at hRE hSE hRA hRB hP hO hRO HPL ⊢
  simp only at HB HG HT hRE hSE hRA hRB hP hO hRO HPL ⊢
  have HRE := Hid.mk hRE
  have HSE := Hid.mk hSE
  have HRA := Hid.mk hRA
  have HRB := Hid.mk hRB
  have HP := Hid.mk hP
  have HO := Hid.mk hO
  have HRO := Hid.mk hRO
  clear hs ht hnt hRE hSE hRA hRB hP hO hRO hE hA hB hR hR64 hR'
  go_enter Tryd.func3, Tryd.ntmps3
  go_wp2_with fail
  refine (HP.out _).mono ?_
  rintro e w1 ⟨v, rfl, hown, hb⟩
  have HB1 := Hid.mk (bl2 HB.out hb)
  have HG1 := Hid.mk (HG.out.kept hb)
  have HT1 := Hid.mk (HT.out.kept hb)
  obtain ⟨g, cv, rfl, hnu⟩ := slice_of_own hown h1
  have HNU1 := Hid.mk hnu
  clear hown hnu
  clear hb HB HG HT
  obtain ⟨c0, c1, c2, c3, c4, c5, c6, c7, c8⟩ := HG1.out
  simp only at c0 c1 c2 c3 c4 c5 c6 c7 c8
  go_wp2_with fail
  refine (HRE.out _).mono ?_
  rintro e w2 ⟨rfl, hb⟩
  have HB2 := Hid.mk (bl2 HB1.out hb)
  have HG2 := Hid.mk (HG1.out.kept hb)
  have HT2 := Hid.mk (HT1.out.kept hb)
  have HNU2 := Hid.mk (HNU1.out.kept hb)
  clear hb HB1 HG1 HT1
  clear c0 c1 c2 c3 c4 c5 c6 c7 c8
  go_wp2_with fail
  refine (HLED.out _).mono ?_
  rintro e w3 ⟨rfl, hb⟩
  have HB3 := Hid.mk (bl2 HB2.out hb)
  have HG3 := Hid.mk (HG2.out.kept hb)
  have HT3 := Hid.mk (HT2.out.kept hb)
  have HNU3 := Hid.mk (HNU2.out.kept hb)
  clear hb HB2 HG2 HT2
  obtain ⟨c0, c1, c2, c3, c4, c5, c6, c7, c8⟩ := HG3.out
  simp only at c0 c1 c2 c3 c4 c5 c6 c7 c8
  go_wp2_with fail
  refine (HSE.out _).mono ?_
  rintro e w4 ⟨rfl, hb⟩
  have HB4 := Hid.mk (bl2 HB3.out hb)
  have HG4 := Hid.mk (HG3.out.kept hb)
  have HT4 := Hid.mk (HT3.out.kept hb)
  have HNU4 := Hid.mk (HNU3.out.kept hb)
  clear hb HB3 HG3 HT3
  clear c0 c1 c2 c3 c4 c5 c6 c7 c8
  go_wp2_with fail
  refine (HN1.out _).mono ?_
  rintro e vv ⟨rfl, hvv⟩
  obtain rfl := hvv.symm
  go_wp2_with fail
  refine (HN2.out _).mono ?_
  rintro e w5 ⟨rfl, hb⟩
  have HB5 := Hid.mk (bl2 HB4.out hb)
  have HG5 := Hid.mk (HG4.out.kept hb)
  have HT5 := Hid.mk (HT4.out.kept hb)
  have HNU5 := Hid.mk (HNU4.out.kept hb)
  clear hb HB4 HG4 HT4
  obtain ⟨c0, c1, c2, c3, c4, c5, c6, c7, c8⟩ := HG5.out
  simp only at c0 c1 c2 c3 c4 c5 c6 c7 c8
  go_wp2_with fail
  refine (HRA.out _).mono ?_
  rintro e w6 ⟨rfl, hb⟩
  have HB6 := Hid.mk (bl2 HB5.out hb)
  have HG6 := Hid.mk (HG5.out.kept hb)
  have HT6 := Hid.mk (HT5.out.kept hb)
  have HNU6 := Hid.mk (HNU5.out.kept hb)
  clear hb HB5 HG5 HT5
  clear c0 c1 c2 c3 c4 c5 c6 c7 c8
  obtain ⟨d0, d1, d2, d3, d4, d5, d6, d7, d8⟩ := HT6.out
  simp only at d0 d1 d2 d3 d4 d5 d6 d7 d8
  go_wp2_with fail
  refine (HRB.out _).mono ?_
  rintro e w7 ⟨rfl, hb⟩
  have HB7 := Hid.mk (bl2 HB6.out hb)
  have HG7 := Hid.mk (HG6.out.kept hb)
  have HT7 := Hid.mk (HT6.out.kept hb)
  have HNU7 := Hid.mk (HNU6.out.kept hb)
  clear hb HB6 HG6 HT6
  clear d0 d1 d2 d3 d4 d5 d6 d7 d8
  obtain ⟨c0, c1, c2, c3, c4, c5, c6, c7, c8⟩ := HG7.out
  simp only at c0 c1 c2 c3 c4 c5 c6 c7 c8
  obtain ⟨d0, d1, d2, d3, d4, d5, d6, d7, d8⟩ := HT7.out
  simp only at d0 d1 d2 d3 d4 d5 d6 d7 d8
  go_wp2_with fail
  refine (HO.out _).mono ?_
  rintro e w8 ⟨rfl, hb⟩
  have HB8 := Hid.mk (bl2 HB7.out hb)
  have HG8 := Hid.mk (HG7.out.kept hb)
  have HT8 := Hid.mk (HT7.out.kept hb)
  have HNU8 := Hid.mk (HNU7.out.kept hb)
  clear hb HB7 HG7 HT7
  clear c0 c1 c2 c3 c4 c5 c6 c7 c8
  clear d0 d1 d2 d3 d4 d5 d6 d7 d8
  obtain ⟨c0, c1, c2, c3, c4, c5, c6, c7, c8⟩ := HG8.out
  simp only at c0 c1 c2 c3 c4 c5 c6 c7 c8
  obtain ⟨d0, d1, d2, d3, d4, d5, d6, d7, d8⟩ := HT8.out
  simp only at d0 d1 d2 d3 d4 d5 d6 d7 d8
  go_wp2_with fail
  refine (HRO.out _).mono ?_
  rintro e w9 ⟨rfl, hb⟩
  have HB9 := Hid.mk (bl2 HB8.out hb)
  have HG9 := Hid.mk (HG8.out.kept hb)
  have HT9 := Hid.mk (HT8.out.kept hb)
  have HNU9 := Hid.mk (HNU8.out.kept hb)
  clear hb HB8 HG8 HT8
  clear c0 c1 c2 c3 c4 c5 c6 c7 c8
  clear d0 d1 d2 d3 d4 d5 d6 d7 d8
  obtain ⟨c0, c1, c2, c3, c4, c5, c6, c7, c8⟩ := HG9.out
  simp only at c0 c1 c2 c3 c4 c5 c6 c7 c8
  go_wp2_with fail
  refine (HPL.out _).mono ?_
  rintro e w10 ⟨g2, rfl, hg2, hown2, hb⟩
  have HB10 := Hid.mk (bl2 HB9.out hb)
  have HG10 := Hid.mk (HG9.out.kept hb)
  have HT10 := Hid.mk (HT9.out.kept hb)
  have HNU10 := Hid.mk (HNU9.out.kept hb)
  have HN9 := Hid.mk (nums_own hown2)
  clear hown2 hg2
  clear hb HB9 HG9 HT9
  clear c0 c1 c2 c3 c4 c5 c6 c7 c8
  go_wp2_with fail
  refine (equalN_true w10 g g2 sz cv sz xs HLX.out (by omega) HNU10.out HN9.out).mono ?_
  rintro e wz ⟨rfl, hbz⟩
  go_wp2_with fail
  go_ret
  exact ⟨rfl, bl2 HB10.out hbz⟩
theorem places_law (s t : Sig) (size : Int) (nt : ByteArray) (w : World) (hs : wfS s) (ht : wfS t) (hnt : nt.size ≤ 9223372036854775807) :
    Calls Tryd.prog 3 #[sgV s, sgV t, .int .i64 size, .string nt] w fun e w' => e = .returned (.bool true) ∧ Below w.heap.size w w' := by
  by_cases hE : chkS s size = 0
  · have hA : chkS s 64 = 0 := by
      obtain ⟨nn, rfl⟩ : ∃ n : Nat, size = n := ⟨size.toNat, by have := (chk_size hE).2.1; omega⟩
      exact chk_more hE
    by_cases hB : chkS t 64 = 0
    · exact places_5 s t size nt w hs ht hnt hE hA hB
    · exact places_4 s t size nt w hs ht hnt hE hA hB
  · by_cases hA : chkS s 64 = 0
    · by_cases hB : chkS t 64 = 0
      · exact places_3 s t size nt w hs ht hnt hE hA hB
      · exact places_2 s t size nt w hs ht hnt hE hA hB
    · exact places_1 s t size nt w hs ht hnt hE hA
end Bw
end Go.Proofs.YtgknolliicachaaDoor
