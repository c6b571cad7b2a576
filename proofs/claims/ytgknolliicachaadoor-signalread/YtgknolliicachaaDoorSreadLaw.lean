/- SignalRead: what is read of any data by any signal is what the document says. -/
import Derived.Test.YtgknolliicachaaDoorRsCheck
import Derived.Test.YtgknolliicachaaDoorRsRaw
import Derived.Test.YtgknolliicachaaDoorRsMean
import Derived.Test.YtgknolliicachaaDoorSgLed
namespace Go.Proofs.YtgknolliicachaaDoor
open Go.ChangeShapes Go.WideShapes Go.ChangeAt Go.RowKit Go.Sort
namespace Bw
open Sm
set_option maxHeartbeats 16000000 in
set_option maxRecDepth 100000 in
theorem sreadl_bad (s : Sig) (a : Option Addr) (len cap : Nat) (l : List UInt8) (w : World) (hs : wfS s) (hD : IsBytes w a len cap l) (hE : chkS s len ≠ 0) :
    Calls Tryd.prog 4 #[sgV s, .slice a len cap] w fun e w' => e = .returned (.bool true) ∧ Below w.heap.size w w' := by
  have HB := Hid.mk (sg_box w s)
  have HG := Hid.mk (SgAt.box w s)
  have hlen : len ≤ maxLen := Nat.le_trans hD.2.1 hD.2.2.1
  have hl' : (len : Int) ≤ 9223372036854775807 := by unfold maxLen at hlen; omega
  have HLED := Hid.mk (fun W => signalled_any W)
  have hRE := fun W => checkSignal_any s len W hs
  have hR := sread_bad s a len cap (w.alloc (sgC s)) hs hlen hE
  have hne : (chkS s len != 0) = true := by simpa using hE
  clear hE hlen hD l hs
  generalize chkS s len = E at *
  obtain ⟨nm, sta, sza, bk, sg, mu, di, ad, ky⟩ := s
  unfold sgC at HB HG hR
  unfold sgV at hR hRE ⊢
  unfold rdV at hR
  simp only at HB HG hR hRE ⊢
  have HR := Hid.mk hR
  have HRE := Hid.mk hRE
  clear hR hRE
  go_enter Tryd.func4, Tryd.ntmps4
  obtain ⟨c0, c1, c2, c3, c4, c5, c6, c7, c8⟩ := HG.out
  simp only at c0 c1 c2 c3 c4 c5 c6 c7 c8
  go_wp2_with fail
  with_reducible refine HR.out.mono ?_
  rintro e w1 ⟨rfl, hb1⟩
  have HB1 := Hid.mk (bl2 HB.out hb1)
  have HG1 := Hid.mk (HG.out.kept hb1)
  clear hb1 HB HG HR c0 c1 c2 c3 c4 c5 c6 c7 c8
  have hW2 := rd_B w1 ⟨#[]⟩ 0 0
  have hA2 := rd_at w1 ⟨#[]⟩ 0 0
  unfold rdC at hW2 hA2
  have HG2 := Hid.mk (HG1.out.kept hW2)
  have HB2 := Hid.mk (bl2 HB1.out hW2)
  have HA2 := Hid.mk hA2
  clear hW2 hA2 HG1 HB1
  obtain ⟨c0, c1, c2, c3, c4, c5, c6, c7, c8⟩ := HG2.out
  simp only at c0 c1 c2 c3 c4 c5 c6 c7 c8
  go_wp2_with fail
  with_reducible refine (HRE.out _).mono ?_
  rintro e w3 ⟨rfl, hb3⟩
  have HG3 := Hid.mk (HG2.out.kept hb3)
  have HB3 := Hid.mk (bl2 HB2.out hb3)
  have HA3 := Hid.mk (HA2.out.kept hb3)
  clear hb3 HG2 HB2 HA2 HRE c0 c1 c2 c3 c4 c5 c6 c7 c8
  go_wp2_with fail
  with_reducible refine (HLED.out _).mono ?_
  rintro e w4 ⟨rfl, hb4⟩
  have HG4 := Hid.mk (HG3.out.kept hb4)
  have HB4 := Hid.mk (bl2 HB3.out hb4)
  have HA4 := Hid.mk (HA3.out.kept hb4)
  clear hb4 HG3 HB3 HA3
  go_wp2_with fail
  with_reducible refine (HLED.out _).mono ?_
  rintro e w5 ⟨rfl, hb5⟩
  have HB5 := Hid.mk (bl2 HB4.out hb5)
  have HA5 := Hid.mk (HA4.out.kept hb5)
  clear hb5 HB4 HA4 HG4
  obtain ⟨⟨d0, d1, d2⟩, -⟩ := HA5.out.cells
  go_wp2_with fail
  go_ret
  exact ⟨by first | rfl | simp, HB5.out⟩
set_option maxHeartbeats 16000000 in
set_option maxRecDepth 100000 in
theorem sreadl_ok (s : Sig) (a : Option Addr) (len cap : Nat) (l : List UInt8) (w : World) (hs : wfS s) (hD : IsBytes w a len cap l) (hE : chkS s len = 0) :
    Calls Tryd.prog 4 #[sgV s, .slice a len cap] w fun e w' => e = .returned (.bool true) ∧ Below w.heap.size w w' := by
  have HB := Hid.mk (sg_box w s)
  have HG := Hid.mk (SgAt.box w s)
  have hlen : len ≤ maxLen := Nat.le_trans hD.2.1 hD.2.2.1
  have hl' : (len : Int) ≤ 9223372036854775807 := by unfold maxLen at hlen; omega
  have HLED := Hid.mk (fun W => signalled_any W)
  have hRE := fun W => checkSignal_any s len W hs
  obtain ⟨st, sz, hRt⟩ := right_of hE
  have hR := sread_ok s st sz a len cap l (w.alloc (sgC s)) hs (isBytes_below hD (sg_box w s)) hE hRt
  have hRaw := fun W (h : Below w.heap.size w W) => rawOf_any s st sz a len cap l W (isBytes_below hD h) hRt
  obtain ⟨sp1, sp2⟩ := rawR_spanR hRt l
  have hhigh : -1099511627776 ≤ lowS s.sg sz ∧ highS s.sg sz ≤ 1099511627776 := by
    have h1 := hRt.s1
    have e := pow_half h1
    have hp40 := pow_le40 hRt.s40
    have hp : (0 : Int) < 2 ^ (sz - 1) := Int.pow_pos (by omega)
    unfold lowS highS
    cases s.sg <;> simp only [Bool.false_eq_true, if_false, if_true] <;> omega
  have hMe := fun W => meaning_any s st sz len (rawR s st sz l) W hRt (by omega) (by omega)
  rw [hE] at hRE
  clear hE hlen hD hs hRt sp1 sp2 hhigh
  generalize numL (meanN s (rawR s st sz l)) s.di = N at *
  generalize denL (meanN s (rawR s st sz l)) s.di = D at *
  generalize rawR s st sz l = R at *
  obtain ⟨nm, sta, sza, bk, sg, mu, di, ad, ky⟩ := s
  unfold sgC at HB HG hR
  unfold sgV at hR hRE hRaw hMe ⊢
  unfold rdV at hR hMe
  simp only at HB HG hR hRE hRaw hMe ⊢
  have HR := Hid.mk hR
  have HRE := Hid.mk hRE
  have HRW := Hid.mk hRaw
  have HME := Hid.mk hMe
  clear hR hRE hRaw hMe
  go_enter Tryd.func4, Tryd.ntmps4
  obtain ⟨c0, c1, c2, c3, c4, c5, c6, c7, c8⟩ := HG.out
  simp only at c0 c1 c2 c3 c4 c5 c6 c7 c8
  go_wp2_with fail
  with_reducible refine HR.out.mono ?_
  rintro e w1 ⟨rfl, hb1⟩
  have HB1 := Hid.mk (bl2 HB.out hb1)
  have HG1 := Hid.mk (HG.out.kept hb1)
  clear hb1 HB HG HR c0 c1 c2 c3 c4 c5 c6 c7 c8
  have hW2 := rd_B w1 nm N D
  have hA2 := rd_at w1 nm N D
  unfold rdC at hW2 hA2
  have HG2 := Hid.mk (HG1.out.kept hW2)
  have HB2 := Hid.mk (bl2 HB1.out hW2)
  have HA2 := Hid.mk hA2
  clear hW2 hA2 HG1 HB1
  obtain ⟨c0, c1, c2, c3, c4, c5, c6, c7, c8⟩ := HG2.out
  simp only at c0 c1 c2 c3 c4 c5 c6 c7 c8
  go_wp2_with fail
  with_reducible refine (HRE.out _).mono ?_
  rintro e w3 ⟨rfl, hb3⟩
  have HG3 := Hid.mk (HG2.out.kept hb3)
  have HB3 := Hid.mk (bl2 HB2.out hb3)
  have HA3 := Hid.mk (HA2.out.kept hb3)
  clear hb3 HG2 HB2 HA2 HRE c0 c1 c2 c3 c4 c5 c6 c7 c8
  go_wp2_with fail
  with_reducible refine (HLED.out _).mono ?_
  rintro e w4 ⟨rfl, hb4⟩
  have HG4 := Hid.mk (HG3.out.kept hb4)
  have HB4 := Hid.mk (bl2 HB3.out hb4)
  have HA4 := Hid.mk (HA3.out.kept hb4)
  clear hb4 HG3 HB3 HA3
  obtain ⟨c0, c1, c2, c3, c4, c5, c6, c7, c8⟩ := HG4.out
  simp only at c0 c1 c2 c3 c4 c5 c6 c7 c8
  go_wp2_with fail
  with_reducible refine (HRW.out _ HB4.out).mono ?_
  rintro e w5 ⟨rfl, hb5⟩
  have HB5 := Hid.mk (bl2 HB4.out hb5)
  have HA5 := Hid.mk (HA4.out.kept hb5)
  have HG5 := Hid.mk (HG4.out.kept hb5)
  clear hb5 HB4 HA4 HG4 HRW c0 c1 c2 c3 c4 c5 c6 c7 c8
  go_wp2_with fail
  refine wp_region_held_drew (S := fun W => SgAt W w.heap.size ⟨nm, sta, sza, bk, sg, mu, di, ad, ky⟩ ∧ RdAt3 W w1.heap.size nm N D) (by kernel_rfl) ⟨HG5.out.kept (dwS w5), HA5.out.kept (dwS w5)⟩ (fun hHeld => ?_)
  refine wpAnyH_take (i := 0) (v := .int .i64 0) rfl (by kernel_rfl) (by kernel_rfl) (by kernel_rfl) (fun _ _ _ h => h) (Or.inl ⟨by rfl, fun _ _ => by rfl⟩) hHeld ?_
  simp only [List.getElem_toArray, List.getElem_cons_zero, Act.put, List.setIfInBounds_toArray, List.set_cons_zero, List.set_cons_succ]
  refine wpAnyH_take (i := 1) (v := .bool true) rfl (by kernel_rfl) (by kernel_rfl) (by kernel_rfl) (fun _ _ _ h => h) (Or.inl ⟨by rfl, fun W hW => by clear hW hHeld; go_simp⟩) hHeld ?_
  simp only [List.getElem_toArray, List.getElem_cons_zero, List.getElem_cons_succ, Act.put, List.setIfInBounds_toArray, List.set_cons_zero, List.set_cons_succ]
  refine wpAnyH_take (i := 2) (v := .bool true) rfl (by kernel_rfl) (by kernel_rfl) (by kernel_rfl) (fun _ _ _ h => h) (Or.inl ⟨by rfl, fun _ _ => by rfl⟩) hHeld ?_
  simp only [List.getElem_toArray, List.getElem_cons_zero, List.getElem_cons_succ, Act.put, List.setIfInBounds_toArray, List.set_cons_zero, List.set_cons_succ]
  refine wpAnyH_take (i := 3) (v := .int .i64 R) rfl (by kernel_rfl) (by kernel_rfl) (by kernel_rfl) (fun _ _ _ h => h) (Or.inl ⟨by rfl, fun _ _ => by rfl⟩) hHeld ?_
  simp only [List.getElem_toArray, List.getElem_cons_zero, List.getElem_cons_succ, Act.put, List.setIfInBounds_toArray, List.set_cons_zero, List.set_cons_succ]
  refine wpAnyH_take (i := 4) (v := .int .i64 R) rfl (by kernel_rfl) (by kernel_rfl) (by kernel_rfl) (fun _ _ _ h => h) (Or.inl ⟨by rfl, fun _ _ => by rfl⟩) hHeld ?_
  simp only [List.getElem_toArray, List.getElem_cons_zero, List.getElem_cons_succ, Act.put, List.setIfInBounds_toArray, List.set_cons_zero, List.set_cons_succ]
  refine wpAnyH_take (i := 5) (v := .bool true) rfl (by kernel_rfl) (by kernel_rfl) (by kernel_rfl) (fun _ _ _ h => h) (Or.inl ⟨by rfl, fun W hW => by clear hW hHeld; go_simp⟩) hHeld ?_
  simp only [List.getElem_toArray, List.getElem_cons_zero, List.getElem_cons_succ, Act.put, List.setIfInBounds_toArray, List.set_cons_zero, List.set_cons_succ]
  refine wpAnyH_take (i := 6) (v := .bool true) rfl (by kernel_rfl) (by kernel_rfl) (by kernel_rfl) (fun _ _ _ h => h) (Or.inl ⟨by rfl, fun W hW => by clear hW hHeld; go_simp⟩) hHeld ?_
  simp only [List.getElem_toArray, List.getElem_cons_zero, List.getElem_cons_succ, Act.put, List.setIfInBounds_toArray, List.set_cons_zero, List.set_cons_succ]
  refine wpAnyH_take (i := 7) (v := .bool true) rfl (by kernel_rfl) (by kernel_rfl) (by kernel_rfl) (fun _ _ _ h => h) (Or.inl ⟨by rfl, fun _ _ => by rfl⟩) hHeld ?_
  simp only [List.getElem_toArray, List.getElem_cons_zero, List.getElem_cons_succ, Act.put, List.setIfInBounds_toArray, List.set_cons_zero, List.set_cons_succ]
  refine wpAnyH_take (i := 8) (v := .agg #[.string nm, .int .i64 N, .int .i64 D]) rfl (by kernel_rfl) (by kernel_rfl) (by kernel_rfl) (fun _ _ _ h => h) (Or.inl ⟨by rfl, fun W hW => by clear hHeld; obtain ⟨-, hA⟩ := hW; obtain ⟨⟨d0, d1, d2⟩, -⟩ := hA.cells; clear hA; go_simp⟩) hHeld ?_
  simp only [List.getElem_toArray, List.getElem_cons_zero, List.getElem_cons_succ, Act.put, List.setIfInBounds_toArray, List.set_cons_zero, List.set_cons_succ]
  refine wpAnyH_take (i := 9) (v := .agg #[.string nm, .int .i64 sta, .int .i64 sza, .bool bk, .bool sg, .int .i64 mu, .int .i64 di, .int .i64 ad, .int .i64 ky]) rfl (by kernel_rfl) (by kernel_rfl) (by kernel_rfl) (fun _ _ _ h => h) (Or.inl ⟨by rfl, fun W hW => by clear hHeld; obtain ⟨⟨c0, c1, c2, c3, c4, c5, c6, c7, c8⟩, -⟩ := hW; simp only at c0 c1 c2 c3 c4 c5 c6 c7 c8; go_simp⟩) hHeld ?_
  simp only [List.getElem_toArray, List.getElem_cons_zero, List.getElem_cons_succ, Act.put, List.setIfInBounds_toArray, List.set_cons_zero, List.set_cons_succ]
  refine wpAnyH_take (i := 10) (v := .int .i64 R) rfl (by kernel_rfl) (by kernel_rfl) (by kernel_rfl) (fun _ _ _ h => h) (Or.inl ⟨by rfl, fun _ _ => by rfl⟩) hHeld ?_
  simp only [List.getElem_toArray, List.getElem_cons_zero, List.getElem_cons_succ, Act.put, List.setIfInBounds_toArray, List.set_cons_zero, List.set_cons_succ]
  refine wpAnyH_ready (rs := [11]) (by kernel_rfl) (by simp) ?_
  refine AllReadyH.cons rfl (fun K hK => ?_) AllReadyH.nil
  go_simp
  go_wp2_with fail
  with_reducible refine (HME.out _).mono ?_
  rintro e w6 ⟨rfl, hb6⟩
  have HB6 := Hid.mk (bl2 HB5.out (bl2 (dwS w5) hb6))
  have hk6 := And.intro (hHeld.1.kept hb6) (hHeld.2.kept hb6)
  clear hb6
  go_wp2_with fail
  refine hK.out _ _ hk6 (fun h1 => ?_)
  clear hK K hHeld hk6
  refine wpAnyH_take (i := 12) (v := .bool true) rfl (by kernel_rfl) (by kernel_rfl) (by kernel_rfl) (fun _ _ _ h => h) (Or.inl ⟨by rfl, fun W hW => by clear hW h1; go_simp⟩) h1 ?_
  simp only [List.getElem_toArray, List.getElem_cons_zero, List.getElem_cons_succ, Act.put, List.setIfInBounds_toArray, List.set_cons_zero, List.set_cons_succ]
  refine wpAnyH_take (i := 13) (v := .bool true) rfl (by kernel_rfl) (by kernel_rfl) (by kernel_rfl) (fun _ _ _ h => h) (Or.inl ⟨by rfl, fun W hW => by clear hW h1; go_simp⟩) h1 ?_
  simp only [List.getElem_toArray, List.getElem_cons_zero, List.getElem_cons_succ, Act.put, List.setIfInBounds_toArray, List.set_cons_zero, List.set_cons_succ]
  refine wpAnyH_take (i := 14) (v := .bool true) rfl (by kernel_rfl) (by kernel_rfl) (by kernel_rfl) (fun _ _ _ h => h) (Or.inl ⟨by rfl, fun _ _ => by rfl⟩) h1 ?_
  simp only [List.getElem_toArray, List.getElem_cons_zero, List.getElem_cons_succ, Act.put, List.setIfInBounds_toArray, List.set_cons_zero, List.set_cons_succ]
  refine wpAnyH_done (by kernel_rfl) ?_ _
  go_wp2_with fail
  go_ret
  exact ⟨rfl, HB6.out⟩
theorem sread_law (s : Sig) (a : Option Addr) (len cap : Nat) (l : List UInt8) (w : World) (hs : wfS s) (hD : IsBytes w a len cap l) :
    Calls Tryd.prog 4 #[sgV s, .slice a len cap] w fun e w' => e = .returned (.bool true) ∧ Below w.heap.size w w' := by
  by_cases hE : chkS s len = 0
  · exact sreadl_ok s a len cap l w hs hD hE
  · exact sreadl_bad s a len cap l w hs hD hE
end Bw
end Go.Proofs.YtgknolliicachaaDoor
