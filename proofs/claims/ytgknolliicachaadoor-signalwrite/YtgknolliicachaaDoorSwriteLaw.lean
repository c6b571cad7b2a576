/- SignalWrite: what is written of any fraction into any data by any signal is what the document says. -/
import Derived.Test.YtgknolliicachaaDoorRsCheck
import Derived.Test.YtgknolliicachaaDoorRsSet
import Derived.Test.YtgknolliicachaaDoorRsUnmean
import Derived.Test.YtgknolliicachaaDoorSgLed
namespace Go.Proofs.YtgknolliicachaaDoor
open Go.ChangeShapes Go.WideShapes Go.ChangeAt Go.RowKit Go.Sort
namespace Bw
open Sm
theorem cloneD_any (a : Option Addr) (len cap : Nat) (l : List UInt8) (w : World) (hD : IsBytes w a len cap l) (hlen : len ≤ 140737488351232) :
    Calls Tryd.prog 19 #[.slice a len cap] w fun e w' => ∃ a' c', e = .returned (.slice a' len c') ∧ IsBytes w' a' len c' l ∧ Below w.heap.size w w' := by
  cases a with
  | none =>
    have h0 := hD.2.2.2.1 rfl
    subst h0
    refine (cloneD_nil w cap).mono ?_
    rintro e w' ⟨rfl, rfl⟩
    exact ⟨none, 0, rfl, ⟨hD.1, Nat.le_refl _, Nat.zero_le _, fun _ => rfl, fun x hx => by cases hx⟩, Below.refl _ _⟩
  | some x =>
    refine (cloneD_some x len cap l w hD hlen).mono ?_
    rintro e w' ⟨g, c, rfl, hown, hb⟩
    exact ⟨some ⟨g, 0, none⟩, c, rfl, isBytes_own hown, hb⟩
theorem unmean_any (s : Sig) (st sz n : Nat) (num den : Int) (w : World) (hR : Rt s st sz n) :
    Calls Tryd.prog 23 #[sgV s, .int .i64 num, .int .i64 den] w fun e w' => e = .returned (.tuple #[.int .i64 (if rawE s sz num den = 0 then rawV s num den else 0), .int .i64 (rawE s sz num den)]) ∧ Below w.heap.size w w' := by
  cases hf : fracB num den with
  | true => exact unmean_ok s st sz n num den w hR hf
  | false =>
    have e3 : rawE s sz num den = 3 := by unfold rawE; rw [if_pos hf]
    rw [e3]
    exact unmean_bad s num den w hf
set_option maxHeartbeats 16000000 in
set_option maxRecDepth 100000 in
theorem swl_1 (s : Sig) (a : Option Addr) (len cap : Nat) (l : List UInt8) (num den : Int) (w : World) (hs : wfS s) (hD : IsBytes w a len cap l) (hlen : len ≤ 140737488351232) (hE : chkS s len ≠ 0) (hA : chkS s 64 ≠ 0) :
    Calls Tryd.prog 5 #[sgV s, .slice a len cap, .int .i64 num, .int .i64 den] w fun e w' => e = .returned (.bool true) ∧ Below w.heap.size w w' := by
  have HB := Hid.mk (sg_box w s)
  have HG := Hid.mk (SgAt.box w s)
  have hmx : len ≤ maxLen := Nat.le_trans hD.2.1 hD.2.2.1
  have HMX := Hid.mk hmx
  have hl' : (len : Int) ≤ 9223372036854775807 := by omega
  have HLED := Hid.mk (fun W => signalled_any W)
  have HCL := Hid.mk (cloneD_any a len cap l (w.alloc (sgC s)) (isBytes_below hD (sg_box w s)) hlen)
  have HD0 := Hid.mk hD
  have hRW := fun W => sraw_bad s num den W hs hA
  have hWR := fun W a' c' => swrite_bad s a' len c' num den W hs hmx hE
  have hK64 := fun W => checkSignal_any s 64 W hs
  have hKL := fun W => checkSignal_any s len W hs
  have n1 : (chkS s 64 == 0) = false := by simpa using hA
  have n2 : (chkS s len != 0) = true := by simpa using hE
  clear hs hD hlen hmx hE hA
  generalize chkS s 64 = EA at *
  generalize chkS s len = EL at *
  obtain ⟨nm, sta, sza, bk, sg, mu, di, ad, ky⟩ := s
  unfold sgC at HB HG HCL
  simp only at HB HG HCL
  unfold sgV at hRW hWR hK64 hKL ⊢
  simp only at hRW hWR hK64 hKL ⊢
  have HRW := Hid.mk hRW
  have HWR := Hid.mk hWR
  have HK64 := Hid.mk hK64
  have HKL := Hid.mk hKL
  clear hRW hWR hK64 hKL
  go_enter Tryd.func5, Tryd.ntmps5
  obtain ⟨c0, c1, c2, c3, c4, c5, c6, c7, c8⟩ := HG.out
  simp only at c0 c1 c2 c3 c4 c5 c6 c7 c8
  go_wp2_with fail
  with_reducible refine HCL.out.mono ?_
  rintro e w1 ⟨a', c', rfl, hO, hb⟩
  have HO1 := Hid.mk hO
  have HB1 := Hid.mk (bl2 HB.out hb)
  have HG1 := Hid.mk (HG.out.kept hb)
  clear hO hb HB HG HCL c0 c1 c2 c3 c4 c5 c6 c7 c8
  obtain ⟨c0, c1, c2, c3, c4, c5, c6, c7, c8⟩ := HG1.out
  simp only at c0 c1 c2 c3 c4 c5 c6 c7 c8
  go_wp2_with fail
  with_reducible refine (HRW.out _).mono ?_
  rintro e w2 ⟨rfl, hb⟩
  have HO2 := Hid.mk (isBytes_below HO1.out hb)
  have HB2 := Hid.mk (bl2 HB1.out hb)
  have HG2 := Hid.mk (HG1.out.kept hb)
  clear hb HO1 HB1 HG1 c0 c1 c2 c3 c4 c5 c6 c7 c8
  obtain ⟨c0, c1, c2, c3, c4, c5, c6, c7, c8⟩ := HG2.out
  simp only at c0 c1 c2 c3 c4 c5 c6 c7 c8
  go_wp2_with fail
  with_reducible refine (HWR.out _ a' c').mono ?_
  rintro e w3 ⟨rfl, hb⟩
  have HO3 := Hid.mk (isBytes_below HO2.out hb)
  have HB3 := Hid.mk (bl2 HB2.out hb)
  have HG3 := Hid.mk (HG2.out.kept hb)
  clear hb HO2 HB2 HG2 c0 c1 c2 c3 c4 c5 c6 c7 c8
  go_wp2_with fail
  with_reducible refine (HLED.out _).mono ?_
  rintro e w4 ⟨rfl, hb⟩
  have HO4 := Hid.mk (isBytes_below HO3.out hb)
  have HB4 := Hid.mk (bl2 HB3.out hb)
  have HG4 := Hid.mk (HG3.out.kept hb)
  clear hb HO3 HB3 HG3
  go_wp2_with fail
  with_reducible refine (equalB_true w4 a' a len c' cap l HMX.out (hasB HO4.out) (hasB (isBytes_below HD0.out HB4.out))).mono ?_
  rintro e w5 ⟨rfl, hb⟩
  have HO5 := Hid.mk (isBytes_below HO4.out hb)
  have HB5 := Hid.mk (bl2 HB4.out hb)
  have HG5 := Hid.mk (HG4.out.kept hb)
  clear hb HO4 HB4 HG4
  obtain ⟨c0, c1, c2, c3, c4, c5, c6, c7, c8⟩ := HG5.out
  simp only at c0 c1 c2 c3 c4 c5 c6 c7 c8
  go_wp2_with fail
  with_reducible refine (HK64.out _).mono ?_
  rintro e w6 ⟨rfl, hb⟩
  have HO6 := Hid.mk (isBytes_below HO5.out hb)
  have HB6 := Hid.mk (bl2 HB5.out hb)
  have HG6 := Hid.mk (HG5.out.kept hb)
  clear hb HO5 HB5 HG5 c0 c1 c2 c3 c4 c5 c6 c7 c8
  obtain ⟨c0, c1, c2, c3, c4, c5, c6, c7, c8⟩ := HG6.out
  simp only at c0 c1 c2 c3 c4 c5 c6 c7 c8
  go_wp2_with fail
  with_reducible refine (HKL.out _).mono ?_
  rintro e w7 ⟨rfl, hb⟩
  have HO7 := Hid.mk (isBytes_below HO6.out hb)
  have HB7 := Hid.mk (bl2 HB6.out hb)
  have HG7 := Hid.mk (HG6.out.kept hb)
  clear hb HO6 HB6 HG6 c0 c1 c2 c3 c4 c5 c6 c7 c8
  go_wp2_with fail
  go_ret
  exact ⟨by first | rfl | simp, HB7.out⟩
set_option maxHeartbeats 16000000 in
set_option maxRecDepth 100000 in
theorem swl_2 (s : Sig) (a : Option Addr) (len cap : Nat) (l : List UInt8) (num den : Int) (w : World) (hs : wfS s) (hD : IsBytes w a len cap l) (hlen : len ≤ 140737488351232) (hE : chkS s len ≠ 0) (hA : chkS s 64 = 0) :
    Calls Tryd.prog 5 #[sgV s, .slice a len cap, .int .i64 num, .int .i64 den] w fun e w' => e = .returned (.bool true) ∧ Below w.heap.size w w' := by
  have HB := Hid.mk (sg_box w s)
  have HG := Hid.mk (SgAt.box w s)
  have hmx : len ≤ maxLen := Nat.le_trans hD.2.1 hD.2.2.1
  have HMX := Hid.mk hmx
  have hl' : (len : Int) ≤ 9223372036854775807 := by omega
  have HLED := Hid.mk (fun W => signalled_any W)
  have HCL := Hid.mk (cloneD_any a len cap l (w.alloc (sgC s)) (isBytes_below hD (sg_box w s)) hlen)
  have HD0 := Hid.mk hD
  obtain ⟨st, sz, hRt⟩ := right_of (n := 64) hA
  have hRW := fun W => sraw_any s st sz num den W hs hA hRt
  have hUN := fun W => unmean_any s st sz 64 num den W hRt
  have hK64 := fun W => checkSignal_any s 64 W hs
  have hKL := fun W => checkSignal_any s len W hs
  rw [hA] at hK64
  have hWR := fun W a' c' => swrite_bad s a' len c' num den W hs hmx hE
  have n2 : (chkS s len != 0) = true := by simpa using hE
  clear hs hD hlen hmx hE hA hRt
  obtain ⟨V, hV⟩ : ∃ V, V = if rawE s sz num den = 0 then rawV s num den else 0 := ⟨_, rfl⟩
  rw [← hV] at hRW hUN
  clear hV
  generalize rawE s sz num den = E at *
  generalize chkS s len = EL at *
  obtain ⟨nm, sta, sza, bk, sg, mu, di, ad, ky⟩ := s
  unfold sgC at HB HG HCL
  simp only at HB HG HCL
  unfold sgV at hRW hWR hK64 hKL hUN ⊢
  simp only at hRW hWR hK64 hKL hUN ⊢
  have HRW := Hid.mk hRW
  have HWR := Hid.mk hWR
  have HK64 := Hid.mk hK64
  have HKL := Hid.mk hKL
  have HUN := Hid.mk hUN
  clear hRW hWR hK64 hKL hUN
  go_enter Tryd.func5, Tryd.ntmps5
  obtain ⟨c0, c1, c2, c3, c4, c5, c6, c7, c8⟩ := HG.out
  simp only at c0 c1 c2 c3 c4 c5 c6 c7 c8
  go_wp2_with fail
  with_reducible refine HCL.out.mono ?_
  rintro e w1 ⟨a', c', rfl, hO, hb⟩
  have HO1 := Hid.mk hO
  have HB1 := Hid.mk (bl2 HB.out hb)
  have HG1 := Hid.mk (HG.out.kept hb)
  clear hO hb HB HG HCL c0 c1 c2 c3 c4 c5 c6 c7 c8
  obtain ⟨c0, c1, c2, c3, c4, c5, c6, c7, c8⟩ := HG1.out
  simp only at c0 c1 c2 c3 c4 c5 c6 c7 c8
  go_wp2_with fail
  with_reducible refine (HRW.out _).mono ?_
  rintro e w2 ⟨rfl, hb⟩
  have HO2 := Hid.mk (isBytes_below HO1.out hb)
  have HB2 := Hid.mk (bl2 HB1.out hb)
  have HG2 := Hid.mk (HG1.out.kept hb)
  clear hb HO1 HB1 HG1 c0 c1 c2 c3 c4 c5 c6 c7 c8
  obtain ⟨c0, c1, c2, c3, c4, c5, c6, c7, c8⟩ := HG2.out
  simp only at c0 c1 c2 c3 c4 c5 c6 c7 c8
  go_wp2_with fail
  with_reducible refine (HWR.out _ a' c').mono ?_
  rintro e w3 ⟨rfl, hb⟩
  have HO3 := Hid.mk (isBytes_below HO2.out hb)
  have HB3 := Hid.mk (bl2 HB2.out hb)
  have HG3 := Hid.mk (HG2.out.kept hb)
  clear hb HO2 HB2 HG2 c0 c1 c2 c3 c4 c5 c6 c7 c8
  go_wp2_with fail
  with_reducible refine (HLED.out _).mono ?_
  rintro e w4 ⟨rfl, hb⟩
  have HO4 := Hid.mk (isBytes_below HO3.out hb)
  have HB4 := Hid.mk (bl2 HB3.out hb)
  have HG4 := Hid.mk (HG3.out.kept hb)
  clear hb HO3 HB3 HG3
  go_wp2_with fail
  with_reducible refine (equalB_true w4 a' a len c' cap l HMX.out (hasB HO4.out) (hasB (isBytes_below HD0.out HB4.out))).mono ?_
  rintro e w5 ⟨rfl, hb⟩
  have HO5 := Hid.mk (isBytes_below HO4.out hb)
  have HB5 := Hid.mk (bl2 HB4.out hb)
  have HG5 := Hid.mk (HG4.out.kept hb)
  clear hb HO4 HB4 HG4
  obtain ⟨c0, c1, c2, c3, c4, c5, c6, c7, c8⟩ := HG5.out
  simp only at c0 c1 c2 c3 c4 c5 c6 c7 c8
  go_wp2_with fail
  with_reducible refine (HK64.out _).mono ?_
  rintro e w6 ⟨rfl, hb⟩
  have HO6 := Hid.mk (isBytes_below HO5.out hb)
  have HB6 := Hid.mk (bl2 HB5.out hb)
  have HG6 := Hid.mk (HG5.out.kept hb)
  clear hb HO5 HB5 HG5 c0 c1 c2 c3 c4 c5 c6 c7 c8
  obtain ⟨c0, c1, c2, c3, c4, c5, c6, c7, c8⟩ := HG6.out
  simp only at c0 c1 c2 c3 c4 c5 c6 c7 c8
  go_wp2_with fail
  with_reducible refine (HUN.out _).mono ?_
  rintro e w7 ⟨rfl, hb⟩
  have HO7 := Hid.mk (isBytes_below HO6.out hb)
  have HB7 := Hid.mk (bl2 HB6.out hb)
  have HG7 := Hid.mk (HG6.out.kept hb)
  clear hb HO6 HB6 HG6 c0 c1 c2 c3 c4 c5 c6 c7 c8
  obtain ⟨c0, c1, c2, c3, c4, c5, c6, c7, c8⟩ := HG7.out
  simp only at c0 c1 c2 c3 c4 c5 c6 c7 c8
  go_wp2_with fail
  with_reducible refine (HKL.out _).mono ?_
  rintro e w8 ⟨rfl, hb⟩
  have HO8 := Hid.mk (isBytes_below HO7.out hb)
  have HB8 := Hid.mk (bl2 HB7.out hb)
  have HG8 := Hid.mk (HG7.out.kept hb)
  clear hb HO7 HB7 HG7 c0 c1 c2 c3 c4 c5 c6 c7 c8
  go_wp2_with fail
  go_ret
  exact ⟨by first | rfl | simp, HB8.out⟩
set_option maxHeartbeats 16000000 in
set_option maxRecDepth 100000 in
theorem swl_3 (s : Sig) (a : Option Addr) (len cap : Nat) (l : List UInt8) (num den : Int) (w : World) (hs : wfS s) (hD : IsBytes w a len cap l) (hlen : len ≤ 140737488351232) (hE : chkS s len = 0) (hX : ∀ st sz, Rt s st sz len → rawE s sz num den ≠ 0) :
    Calls Tryd.prog 5 #[sgV s, .slice a len cap, .int .i64 num, .int .i64 den] w fun e w' => e = .returned (.bool true) ∧ Below w.heap.size w w' := by
  have HB := Hid.mk (sg_box w s)
  have HG := Hid.mk (SgAt.box w s)
  have hmx : len ≤ maxLen := Nat.le_trans hD.2.1 hD.2.2.1
  have HMX := Hid.mk hmx
  have hl' : (len : Int) ≤ 9223372036854775807 := by omega
  have HLED := Hid.mk (fun W => signalled_any W)
  have HCL := Hid.mk (cloneD_any a len cap l (w.alloc (sgC s)) (isBytes_below hD (sg_box w s)) hlen)
  have HD0 := Hid.mk hD
  have hA : chkS s 64 = 0 := chk_more hE
  obtain ⟨st, sz, hRt⟩ := right_of hE
  have hRt64 := hRt.more hRt.n64 (Nat.le_refl _)
  have hRW := fun W => sraw_any s st sz num den W hs hA hRt64
  have hUN := fun W => unmean_any s st sz len num den W hRt
  have hK64 := fun W => checkSignal_any s 64 W hs
  have hKL := fun W => checkSignal_any s len W hs
  rw [hA] at hK64
  rw [hE] at hKL
  have hX' := hX st sz hRt
  have hWR := fun W a' c' => swrite_raw s st sz a' len c' num den W hs hE hRt hX'
  have n2 : (rawE s sz num den != 0) = true := by simpa using hX'
  rw [if_neg hX'] at hRW hUN
  clear hs hD hlen hmx hE hA hRt hRt64 hX hX'
  generalize rawE s sz num den = E at *
  obtain ⟨nm, sta, sza, bk, sg, mu, di, ad, ky⟩ := s
  unfold sgC at HB HG HCL
  simp only at HB HG HCL
  unfold sgV at hRW hWR hK64 hKL hUN ⊢
  simp only at hRW hWR hK64 hKL hUN ⊢
  have HRW := Hid.mk hRW
  have HWR := Hid.mk hWR
  have HK64 := Hid.mk hK64
  have HKL := Hid.mk hKL
  have HUN := Hid.mk hUN
  clear hRW hWR hK64 hKL hUN
  go_enter Tryd.func5, Tryd.ntmps5
  obtain ⟨c0, c1, c2, c3, c4, c5, c6, c7, c8⟩ := HG.out
  simp only at c0 c1 c2 c3 c4 c5 c6 c7 c8
  go_wp2_with fail
  with_reducible refine HCL.out.mono ?_
  rintro e w1 ⟨a', c', rfl, hO, hb⟩
  have HO1 := Hid.mk hO
  have HB1 := Hid.mk (bl2 HB.out hb)
  have HG1 := Hid.mk (HG.out.kept hb)
  clear hO hb HB HG HCL c0 c1 c2 c3 c4 c5 c6 c7 c8
  obtain ⟨c0, c1, c2, c3, c4, c5, c6, c7, c8⟩ := HG1.out
  simp only at c0 c1 c2 c3 c4 c5 c6 c7 c8
  go_wp2_with fail
  with_reducible refine (HRW.out _).mono ?_
  rintro e w2 ⟨rfl, hb⟩
  have HO2 := Hid.mk (isBytes_below HO1.out hb)
  have HB2 := Hid.mk (bl2 HB1.out hb)
  have HG2 := Hid.mk (HG1.out.kept hb)
  clear hb HO1 HB1 HG1 c0 c1 c2 c3 c4 c5 c6 c7 c8
  obtain ⟨c0, c1, c2, c3, c4, c5, c6, c7, c8⟩ := HG2.out
  simp only at c0 c1 c2 c3 c4 c5 c6 c7 c8
  go_wp2_with fail
  with_reducible refine (HWR.out _ a' c').mono ?_
  rintro e w3 ⟨rfl, hb⟩
  have HO3 := Hid.mk (isBytes_below HO2.out hb)
  have HB3 := Hid.mk (bl2 HB2.out hb)
  have HG3 := Hid.mk (HG2.out.kept hb)
  clear hb HO2 HB2 HG2 c0 c1 c2 c3 c4 c5 c6 c7 c8
  go_wp2_with fail
  with_reducible refine (HLED.out _).mono ?_
  rintro e w4 ⟨rfl, hb⟩
  have HO4 := Hid.mk (isBytes_below HO3.out hb)
  have HB4 := Hid.mk (bl2 HB3.out hb)
  have HG4 := Hid.mk (HG3.out.kept hb)
  clear hb HO3 HB3 HG3
  go_wp2_with fail
  with_reducible refine (equalB_true w4 a' a len c' cap l HMX.out (hasB HO4.out) (hasB (isBytes_below HD0.out HB4.out))).mono ?_
  rintro e w5 ⟨rfl, hb⟩
  have HO5 := Hid.mk (isBytes_below HO4.out hb)
  have HB5 := Hid.mk (bl2 HB4.out hb)
  have HG5 := Hid.mk (HG4.out.kept hb)
  clear hb HO4 HB4 HG4
  obtain ⟨c0, c1, c2, c3, c4, c5, c6, c7, c8⟩ := HG5.out
  simp only at c0 c1 c2 c3 c4 c5 c6 c7 c8
  go_wp2_with fail
  with_reducible refine (HK64.out _).mono ?_
  rintro e w6 ⟨rfl, hb⟩
  have HO6 := Hid.mk (isBytes_below HO5.out hb)
  have HB6 := Hid.mk (bl2 HB5.out hb)
  have HG6 := Hid.mk (HG5.out.kept hb)
  clear hb HO5 HB5 HG5 c0 c1 c2 c3 c4 c5 c6 c7 c8
  obtain ⟨c0, c1, c2, c3, c4, c5, c6, c7, c8⟩ := HG6.out
  simp only at c0 c1 c2 c3 c4 c5 c6 c7 c8
  go_wp2_with fail
  with_reducible refine (HUN.out _).mono ?_
  rintro e w7 ⟨rfl, hb⟩
  have HO7 := Hid.mk (isBytes_below HO6.out hb)
  have HB7 := Hid.mk (bl2 HB6.out hb)
  have HG7 := Hid.mk (HG6.out.kept hb)
  clear hb HO6 HB6 HG6 c0 c1 c2 c3 c4 c5 c6 c7 c8
  obtain ⟨c0, c1, c2, c3, c4, c5, c6, c7, c8⟩ := HG7.out
  simp only at c0 c1 c2 c3 c4 c5 c6 c7 c8
  go_wp2_with fail
  with_reducible refine (HKL.out _).mono ?_
  rintro e w8 ⟨rfl, hb⟩
  have HO8 := Hid.mk (isBytes_below HO7.out hb)
  have HB8 := Hid.mk (bl2 HB7.out hb)
  have HG8 := Hid.mk (HG7.out.kept hb)
  clear hb HO7 HB7 HG7 c0 c1 c2 c3 c4 c5 c6 c7 c8
  go_wp2_with fail
  go_ret
  exact ⟨by first | rfl | simp, HB8.out⟩
set_option maxHeartbeats 16000000 in
set_option maxRecDepth 100000 in
theorem swl_4 (s : Sig) (a : Option Addr) (len cap : Nat) (l : List UInt8) (num den : Int) (w : World) (hs : wfS s) (hD : IsBytes w a len cap l) (hlen : len ≤ 140737488351232) (hE : chkS s len = 0) (hX : ∀ st sz, Rt s st sz len → rawE s sz num den = 0) :
    Calls Tryd.prog 5 #[sgV s, .slice a len cap, .int .i64 num, .int .i64 den] w fun e w' => e = .returned (.bool true) ∧ Below w.heap.size w w' := by
  have HB := Hid.mk (sg_box w s)
  have HG := Hid.mk (SgAt.box w s)
  have hmx : len ≤ maxLen := Nat.le_trans hD.2.1 hD.2.2.1
  have HMX := Hid.mk hmx
  have hl' : (len : Int) ≤ 9223372036854775807 := by omega
  have HLED := Hid.mk (fun W => signalled_any W)
  have HCL := Hid.mk (cloneD_any a len cap l (w.alloc (sgC s)) (isBytes_below hD (sg_box w s)) hlen)
  have HD0 := Hid.mk hD
  have hA : chkS s 64 = 0 := chk_more hE
  obtain ⟨st, sz, hRt⟩ := right_of hE
  have hRt64 := hRt.more hRt.n64 (Nat.le_refl _)
  have hRW := fun W => sraw_any s st sz num den W hs hA hRt64
  have hUN := fun W => unmean_any s st sz len num den W hRt
  have hK64 := fun W => checkSignal_any s 64 W hs
  have hKL := fun W => checkSignal_any s len W hs
  rw [hA] at hK64
  rw [hE] at hKL
  have hX' := hX st sz hRt
  have hWR := fun W a' c' h => swrite_ok s st sz a' len c' l num den W hs h hE hRt hX'
  have hSR := fun W h => setRaw_any s st sz a len cap l (rawV s num den) W h hRt
  rw [hX', if_pos rfl] at hRW hUN
  clear hs hD hlen hmx hE hA hRt64 hX hX'
  generalize hwl : wrS s st sz l (rawV s num den) = L at *
  clear hwl hRt
  generalize rawV s num den = V at *
  obtain ⟨nm, sta, sza, bk, sg, mu, di, ad, ky⟩ := s
  unfold sgC at HB HG HCL
  simp only at HB HG HCL
  unfold sgV at hRW hWR hK64 hKL hUN hSR ⊢
  simp only at hRW hWR hK64 hKL hUN hSR ⊢
  have HRW := Hid.mk hRW
  have HWR := Hid.mk hWR
  have HK64 := Hid.mk hK64
  have HKL := Hid.mk hKL
  have HUN := Hid.mk hUN
  have HSR := Hid.mk hSR
  clear hRW hWR hK64 hKL hUN hSR
  go_enter Tryd.func5, Tryd.ntmps5
  obtain ⟨c0, c1, c2, c3, c4, c5, c6, c7, c8⟩ := HG.out
  simp only at c0 c1 c2 c3 c4 c5 c6 c7 c8
  go_wp2_with fail
  with_reducible refine HCL.out.mono ?_
  rintro e w1 ⟨a', c', rfl, hO, hb⟩
  have HO1 := Hid.mk hO
  have HB1 := Hid.mk (bl2 HB.out hb)
  have HG1 := Hid.mk (HG.out.kept hb)
  clear hO hb HB HG HCL c0 c1 c2 c3 c4 c5 c6 c7 c8
  obtain ⟨c0, c1, c2, c3, c4, c5, c6, c7, c8⟩ := HG1.out
  simp only at c0 c1 c2 c3 c4 c5 c6 c7 c8
  go_wp2_with fail
  with_reducible refine (HRW.out _).mono ?_
  rintro e w2 ⟨rfl, hb⟩
  have HO2 := Hid.mk (isBytes_below HO1.out hb)
  have HB2 := Hid.mk (bl2 HB1.out hb)
  have HG2 := Hid.mk (HG1.out.kept hb)
  clear hb HO1 HB1 HG1 c0 c1 c2 c3 c4 c5 c6 c7 c8
  obtain ⟨c0, c1, c2, c3, c4, c5, c6, c7, c8⟩ := HG2.out
  simp only at c0 c1 c2 c3 c4 c5 c6 c7 c8
  go_wp2_with fail
  with_reducible refine (HWR.out _ a' c' HO2.out).mono ?_
  rintro e w3 ⟨gd, cd, rfl, hdw, hb⟩
  have HDW3 := Hid.mk (isBytes_own hdw)
  clear hdw
  have HO3 := Hid.mk (isBytes_below HO2.out hb)
  have HB3 := Hid.mk (bl2 HB2.out hb)
  have HG3 := Hid.mk (HG2.out.kept hb)
  clear hb HO2 HB2 HG2 c0 c1 c2 c3 c4 c5 c6 c7 c8
  go_wp2_with fail
  with_reducible refine (HLED.out _).mono ?_
  rintro e w4 ⟨rfl, hb⟩
  have HDW4 := Hid.mk (isBytes_below HDW3.out hb)
  clear HDW3
  have HO4 := Hid.mk (isBytes_below HO3.out hb)
  have HB4 := Hid.mk (bl2 HB3.out hb)
  have HG4 := Hid.mk (HG3.out.kept hb)
  clear hb HO3 HB3 HG3
  go_wp2_with fail
  with_reducible refine (equalB_true w4 a' a len c' cap l HMX.out (hasB HO4.out) (hasB (isBytes_below HD0.out HB4.out))).mono ?_
  rintro e w5 ⟨rfl, hb⟩
  have HDW5 := Hid.mk (isBytes_below HDW4.out hb)
  clear HDW4
  have HO5 := Hid.mk (isBytes_below HO4.out hb)
  have HB5 := Hid.mk (bl2 HB4.out hb)
  have HG5 := Hid.mk (HG4.out.kept hb)
  clear hb HO4 HB4 HG4
  obtain ⟨c0, c1, c2, c3, c4, c5, c6, c7, c8⟩ := HG5.out
  simp only at c0 c1 c2 c3 c4 c5 c6 c7 c8
  go_wp2_with fail
  with_reducible refine (HK64.out _).mono ?_
  rintro e w6 ⟨rfl, hb⟩
  have HDW6 := Hid.mk (isBytes_below HDW5.out hb)
  clear HDW5
  have HO6 := Hid.mk (isBytes_below HO5.out hb)
  have HB6 := Hid.mk (bl2 HB5.out hb)
  have HG6 := Hid.mk (HG5.out.kept hb)
  clear hb HO5 HB5 HG5 c0 c1 c2 c3 c4 c5 c6 c7 c8
  obtain ⟨c0, c1, c2, c3, c4, c5, c6, c7, c8⟩ := HG6.out
  simp only at c0 c1 c2 c3 c4 c5 c6 c7 c8
  go_wp2_with fail
  with_reducible refine (HUN.out _).mono ?_
  rintro e w7 ⟨rfl, hb⟩
  have HDW7 := Hid.mk (isBytes_below HDW6.out hb)
  clear HDW6
  have HO7 := Hid.mk (isBytes_below HO6.out hb)
  have HB7 := Hid.mk (bl2 HB6.out hb)
  have HG7 := Hid.mk (HG6.out.kept hb)
  clear hb HO6 HB6 HG6 c0 c1 c2 c3 c4 c5 c6 c7 c8
  obtain ⟨c0, c1, c2, c3, c4, c5, c6, c7, c8⟩ := HG7.out
  simp only at c0 c1 c2 c3 c4 c5 c6 c7 c8
  go_wp2_with fail
  with_reducible refine (HKL.out _).mono ?_
  rintro e w8 ⟨rfl, hb⟩
  have HDW8 := Hid.mk (isBytes_below HDW7.out hb)
  clear HDW7
  have HO8 := Hid.mk (isBytes_below HO7.out hb)
  have HB8 := Hid.mk (bl2 HB7.out hb)
  have HG8 := Hid.mk (HG7.out.kept hb)
  clear hb HO7 HB7 HG7 c0 c1 c2 c3 c4 c5 c6 c7 c8
  obtain ⟨c0, c1, c2, c3, c4, c5, c6, c7, c8⟩ := HG8.out
  simp only at c0 c1 c2 c3 c4 c5 c6 c7 c8
  go_wp2_with fail
  with_reducible refine (HSR.out _ (isBytes_below HD0.out HB8.out)).mono ?_
  rintro e w9 ⟨gs, cs, rfl, hsw, hb⟩
  have HDW9 := Hid.mk (isBytes_below HDW8.out hb)
  clear HDW8
  have HSW9 := Hid.mk (isBytes_own hsw)
  clear hsw
  have HO9 := Hid.mk (isBytes_below HO8.out hb)
  have HB9 := Hid.mk (bl2 HB8.out hb)
  have HG9 := Hid.mk (HG8.out.kept hb)
  clear hb HO8 HB8 HG8 c0 c1 c2 c3 c4 c5 c6 c7 c8
  go_wp2_with fail
  with_reducible refine (equalB_true w9 (some ⟨gd, 0, none⟩) (some ⟨gs, 0, none⟩) len cd cs L HMX.out (hasB HDW9.out) (hasB HSW9.out)).mono ?_
  rintro e w10 ⟨rfl, hb⟩
  have HO10 := Hid.mk (isBytes_below HO9.out hb)
  have HB10 := Hid.mk (bl2 HB9.out hb)
  have HG10 := Hid.mk (HG9.out.kept hb)
  clear hb HO9 HB9 HG9
  go_wp2_with fail
  go_ret
  exact ⟨by first | rfl | simp, HB10.out⟩
theorem swrite_law (s : Sig) (a : Option Addr) (len cap : Nat) (l : List UInt8) (num den : Int) (w : World) (hs : wfS s) (hD : IsBytes w a len cap l) (hlen : len ≤ 140737488351232) :
    Calls Tryd.prog 5 #[sgV s, .slice a len cap, .int .i64 num, .int .i64 den] w fun e w' => e = .returned (.bool true) ∧ Below w.heap.size w w' := by
  by_cases hE : chkS s len = 0
  · obtain ⟨st, sz, hRt⟩ := right_of hE
    have huniq : ∀ st' sz', Rt s st' sz' len → sz' = sz := fun st' sz' h => by have h1 := h.hsz; have h2 := hRt.hsz; omega
    by_cases hX : rawE s sz num den = 0
    · exact swl_4 s a len cap l num den w hs hD hlen hE (fun st' sz' h => by rw [huniq st' sz' h]; exact hX)
    · exact swl_3 s a len cap l num den w hs hD hlen hE (fun st' sz' h => by rw [huniq st' sz' h]; exact hX)
  · by_cases hA : chkS s 64 = 0
    · exact swl_2 s a len cap l num den w hs hD hlen hE hA
    · exact swl_1 s a len cap l num den w hs hD hlen hE hA
end Bw
end Go.Proofs.YtgknolliicachaaDoor
