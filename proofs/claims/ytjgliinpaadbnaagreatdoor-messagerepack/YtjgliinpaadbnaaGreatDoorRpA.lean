/- What is read of a frame is written as one that is read the same; of no program. -/
import Derived.Test.YtjgliinpaadbnaaGreatDoorMgWriteA
import Derived.Test.YtjgliinpaadbnaaGreatDoorRsRP
import Derived.Test.YtjgliinpaadbnaaGreatDoorSgWrite
import Derived.Deep.RegionHeld
import Derived.Test.YtjgliinpaadbnaaGreatDoorBgU
import Derived.Test.YtjgliinpaadbnaaGreatDoorMreadBase
import Derived.Test.YtjgliinpaadbnaaGreatDoorNoFrameA
import Derived.Test.YtjgliinpaadbnaaGreatDoorSgFacts2
namespace Go.Proofs.YtjgliinpaadbnaaGreatDoor
open Go.ChangeShapes Go.WideShapes Go.ChangeAt Go.RowKit
namespace Bw
open Sm
/-- what is read of a right message has no name twice -/
theorem reads_apart {m : Msg} (h : OkM m) (dt : List UInt8) : NoTwo (readsD m dt) := by
  have hp : (m.sigs.map Sig.nm).Pairwise (fun a b => a ≠ b) := by
    rw [List.pairwise_map, List.pairwise_iff_getElem]
    intro i j hi hj hij
    have := h.apart hi hj (by omega)
    unfold Msg.at at this
    rw [getD_at hi, getD_at hj] at this
    exact this
  have hq : (readsD m dt).Pairwise (fun a b => a.nm ≠ b.nm) := by
    unfold readsD
    rw [List.pairwise_map] at hp ⊢
    exact (hp.filter _).imp (fun h => h)
  intro i j hij hj
  rw [List.pairwise_iff_getElem] at hq
  have := hq i j (by omega) hj hij
  unfold rdAt
  rw [getD_at (by omega), getD_at hj]
  exact this
/-- what Repack's own way of putting a signal does: it never fails -/
def putP (l : List Rd) (s : Sig) (d : List UInt8) : Int × List UInt8 :=
  match findR l s.nm with
  | none => (0, d)
  | some r => if rwE s r.num r.den = 0 then (0, wrD s d r.num r.den) else (0, d)
theorem putP_zero (l : List Rd) (s : Sig) (d : List UInt8) : (putP l s d).1 = 0 := by
  unfold putP
  split
  · rfl
  · split <;> rfl
theorem goE_zero {put : PutF} (h : ∀ s d, (put s d).1 = 0) : ∀ (l : List Sig) (d : List UInt8), (goE put l d).1 = 0
  | [], _ => rfl
  | s :: r, d => by
    simp only [goE, if_pos (h s d)]
    exact goE_zero h r _
theorem fillP_zero (l : List Rd) (m : Msg) : (fillE (putP l) m).1 = 0 := by
  have hc : (chooE (putP l) m).1 = 0 := by
    unfold chooE
    split
    · exact putP_zero _ _ _
    · rfl
  unfold fillE
  rw [if_pos hc]
  exact goE_zero (putP_zero l) _ _
theorem enter_putP : ∀ args w, (callFunc 42 args).run Tryz.prog w = .ok (.enter 42 args) w := enters_of Tryz.func42 (by kernel_rfl) rfl
set_option maxHeartbeats 8000000 in
set_option maxRecDepth 100000 in
theorem putP_any (l : List Rd) (s : Sig) (g bm : Nat) (a : Option Addr) (len cap : Nat) (d : List UInt8) (w : World) (hI : WrI l g bm w []) (h : wfS s) (hnm : s.nm.size ≤ maxLen) (hD : IsBytes w a len cap d) (hE : chkS s len = 0) :
    Calls Tryz.prog 42 #[sgV s, .slice a len cap, .pointer (some ⟨g, 0, none⟩)] w fun e w' => PutP (putP l s d) (fun w' => WrI l g bm w' []) bm len w e w' := by
  have HI := Hid.mk hI
  obtain ⟨hg, n, D, hM, hL⟩ := hI
  have HBX := Hid.mk (sg_box w s)
  have HSA := Hid.mk (SgAt.box w s)
  have hg1 := cell_kept HBX.out hg
  have HM1 := Hid.mk (hM.kept HBX.out)
  have HMB := Hid.mk hM.map
  have HKEY := Hid.mk (key_is hnm)
  cases hf : findR l s.nm with
  | none =>
    have hp : putP l s d = (0, d) := by unfold putP; rw [hf]
    rw [hp]
    have HH := Hid.mk (hL.none s.nm hf)
    have HU := Hid.mk (Maps.atKey_of_not_has (hL.none s.nm hf) (DataW.held (.agg #[.string ⟨#[]⟩, .int .i64 0, .int .i64 0] : Value)))
    have HB2 := Hid.mk (put_box w s ⟨#[]⟩ 0 0)
    have HRC := Hid.mk (put_rd w s ⟨#[]⟩ 0 0)
    have HSA2 := Hid.mk (HSA.out.kept (awB1 _ (.cells #[.string ⟨#[]⟩, .int .i64 0, .int .i64 0] 44)))
    have HDD := Hid.mk (bytesC hD (CK.below HB2.out))
    have HW := Hid.mk (fun W (hb : IsBytes W a len cap d) => swrite_is s a len cap d 0 0 W h hb hE)
    clear hp hg hM hL h hnm hD hE hf
    generalize rwE s 0 0 = RE at *
    generalize wrD s d 0 0 = WD at *
    obtain ⟨nm, st, sz, bk, sg, mu, di, ad, ky⟩ := s
    unfold sgC at HBX HSA hg1 HM1 HB2 HRC HSA2 HDD
    unfold sgV at HW ⊢
    simp only at HBX HSA hg1 HM1 HB2 HKEY HH HU HRC HSA2 HDD HW ⊢
    obtain ⟨s0, s1, s2, s3, s4, s5, s6, s7, s8⟩ := HSA2.out
    obtain ⟨r1, r2⟩ := HRC.out
    simp only at s0 s1 s2 s3 s4 s5 s6 s7 s8
    go_enter Tryz.func42, Tryz.ntmps42
    go_wp2_with (at_lookup; refine wpList_lookup_rd _ rfl _ _ rfl bm n D rfl HM1.out _ _ rfl HKEY.out _ _ HU.out HH.out ?_)
    refine (HW.out _ HDD.out).mono ?_
    rintro e w2 ⟨hb2, hcase⟩
    have HGM := Hid.mk (GM.below HMB.out (bl2 HB2.out hb2))
    have HI2 := Hid.mk (HI.out.kept (bl2 HB2.out hb2))
    have HD2 := Hid.mk (isBytes_below HDD.out hb2)
    rcases hcase with ⟨hne, rfl⟩ | ⟨hz, a', c, rfl, hB'⟩
    · clear hne hb2
      go_wp2_with fail
      go_ret2
      exact ⟨HGM, .inr ⟨_, _, rfl, Hid.mk ⟨rfl, HD2.out, HI2.out⟩⟩⟩
    · clear hz hb2 hB'
      go_wp2_with fail
      go_ret2
      exact ⟨HGM, .inr ⟨_, _, rfl, Hid.mk ⟨rfl, HD2.out, HI2.out⟩⟩⟩
  | some r =>
    have hhas := hL.some s.nm r hf (by simp)
    have hp : putP l s d = if rwE s r.num r.den = 0 then (0, wrD s d r.num r.den) else (0, d) := by unfold putP; rw [hf]
    have HP := Hid.mk hp
    have HH := Hid.mk hhas.1
    have HU := Hid.mk (hhas.2 (DataW.held (.agg #[.string ⟨#[]⟩, .int .i64 0, .int .i64 0] : Value)))
    have HB2 := Hid.mk (put_box w s r.nm r.num r.den)
    have HRC := Hid.mk (put_rd w s r.nm r.num r.den)
    have HSA2 := Hid.mk (HSA.out.kept (awB1 _ (.cells #[.string r.nm, .int .i64 r.num, .int .i64 r.den] 44)))
    have HDD := Hid.mk (bytesC hD (CK.below HB2.out))
    have HW := Hid.mk (fun W (hb : IsBytes W a len cap d) => swrite_is s a len cap d r.num r.den W h hb hE)
    clear hp hg hM hL h hnm hD hE hf hhas
    generalize putP l s d = PW at *
    generalize rwE s r.num r.den = RE at *
    generalize wrD s d r.num r.den = WD at *
    obtain ⟨nm, st, sz, bk, sg, mu, di, ad, ky⟩ := s
    obtain ⟨rnm, rnum, rden⟩ := r
    unfold rdVal at HU
    unfold sgC at HBX HSA hg1 HM1 HB2 HRC HSA2 HDD
    unfold sgV at HW ⊢
    simp only at HBX HSA hg1 HM1 HB2 HKEY HH HU HRC HSA2 HDD HW ⊢
    obtain ⟨s0, s1, s2, s3, s4, s5, s6, s7, s8⟩ := HSA2.out
    obtain ⟨r1, r2⟩ := HRC.out
    simp only at s0 s1 s2 s3 s4 s5 s6 s7 s8
    go_enter Tryz.func42, Tryz.ntmps42
    go_wp2_with (at_lookup; refine wpList_lookup_rd _ rfl _ _ rfl bm n D rfl HM1.out _ _ rfl HKEY.out _ _ HU.out HH.out ?_)
    refine (HW.out _ HDD.out).mono ?_
    rintro e w2 ⟨hb2, hcase⟩
    have HGM := Hid.mk (GM.below HMB.out (bl2 HB2.out hb2))
    have HI2 := Hid.mk (HI.out.kept (bl2 HB2.out hb2))
    have HD2 := Hid.mk (isBytes_below HDD.out hb2)
    rcases hcase with ⟨hne, rfl⟩ | ⟨hz, a', c, rfl, hB'⟩
    · have HNE := Hid.mk hne
      have hne' : (RE != 0) = true := by simpa using hne
      clear hne hb2
      go_wp2_with fail
      go_ret2
      refine ⟨HGM, .inr ?_⟩
      rw [HP.out, if_neg HNE.out]
      exact ⟨_, _, rfl, Hid.mk ⟨rfl, HD2.out, HI2.out⟩⟩
    · have HZ := Hid.mk hz
      have HB' := Hid.mk hB'
      clear hz hb2 hB'
      go_wp2_with fail
      go_ret2
      refine ⟨HGM, .inr ?_⟩
      rw [HP.out, if_pos HZ.out]
      exact ⟨_, _, rfl, Hid.mk ⟨rfl, HB'.out, HI2.out⟩⟩
theorem mr_res (tmps : Array Value) (w : World) (g : Nat) (c0 c1 c2 c3 c4 c5 y : Value) (hp : tmps.getD 6 undef = .pointer (some ⟨g, 0, none⟩)) (hy : tmps.getD 7 undef = y) (h : Six w g c0 c1 c2 c3 c4 c5) :
    (results Tryz.f13 tmps).run Tryz.prog w = .ok (.tuple #[.agg #[c0, c1, c2, c3, c4, c5], y]) w := by
  have hl := run_loadVar_row (P := Tryz.prog) w g 28 28 #[c0, c1, c2, c3, c4, c5] (0, 0) _ h Tryz.underlying28 rfl (by rw [fr_i]; rfl)
  have hp' : tmps[6]?.getD undef = .pointer (some ⟨g, 0, none⟩) := by simpa using hp
  have hy' : tmps[7]?.getD undef = y := by simpa using hy
  simp [results, hp', hy', asAddr, hl]
def repE (fr to : Msg) (id : Int) (lo fa re : Bool) (sz : Int) (n : Nat) : Int := if chkM to ≠ 0 then chkM to else readE fr id lo fa re sz n
def rpW (w : World) (v t : MsV) (id : Int) (lo fa re : Bool) (sz : Int) (a : Option Addr) (len cap : Nat) : World := (((w.alloc (msC v)).alloc (msC t)).alloc (frameC id lo fa re sz a len cap)).alloc (.cells #[.int .i64 0, .bool false, .bool false, .bool false, .int .i64 0, .slice none 0 0] 28)
theorem rp_B (w : World) (v t : MsV) (id : Int) (lo fa re : Bool) (sz : Int) (a : Option Addr) (len cap : Nat) : Below w.heap.size w (rpW w v t id lo fa re sz a len cap) := ((((Below.refl _ _).alloc (Nat.le_refl _) _).alloc (by simp) _).alloc (by simp; omega) _).alloc (by simp; omega) _
theorem rp_v (w : World) (v t : MsV) (id : Int) (lo fa re : Bool) (sz : Int) (a : Option Addr) (len cap : Nat) : MsAt (rpW w v t id lo fa re sz a len cap) w.heap.size v := (((MsAt.box w v).kept (awB1 _ _)).kept (awB1 _ _)).kept (awB1 _ _)
theorem rp_t (w : World) (v t : MsV) (id : Int) (lo fa re : Bool) (sz : Int) (a : Option Addr) (len cap : Nat) : MsAt (rpW w v t id lo fa re sz a len cap) (w.heap.size + 1) t := by
  have := MsAt.box (w.alloc (msC v)) t
  rw [show (w.alloc (msC v)).heap.size = w.heap.size + 1 by simp] at this
  exact (this.kept (awB1 _ _)).kept (awB1 _ _)
theorem rp_f (w : World) (v t : MsV) (id : Int) (lo fa re : Bool) (sz : Int) (a : Option Addr) (len cap : Nat) : FrAt (rpW w v t id lo fa re sz a len cap) (w.heap.size + 2) id lo fa re sz a len cap := by
  have := FrAt.box ((w.alloc (msC v)).alloc (msC t)) id lo fa re sz a len cap
  rw [show ((w.alloc (msC v)).alloc (msC t)).heap.size = w.heap.size + 2 by simp] at this
  exact this.kept (awB1 _ _)
theorem rp_s (w : World) (v t : MsV) (id : Int) (lo fa re : Bool) (sz : Int) (a : Option Addr) (len cap : Nat) : Six (rpW w v t id lo fa re sz a len cap) (w.heap.size + 3) (.int .i64 0) (.bool false) (.bool false) (.bool false) (.int .i64 0) (.slice none 0 0) := by
  have := heap_alloc_new (((w.alloc (msC v)).alloc (msC t)).alloc (frameC id lo fa re sz a len cap)) (.cells #[.int .i64 0, .bool false, .bool false, .bool false, .int .i64 0, .slice none 0 0] 28)
  rw [show (((w.alloc (msC v)).alloc (msC t)).alloc (frameC id lo fa re sz a len cap)).heap.size = w.heap.size + 3 by simp] at this
  exact this
set_option maxHeartbeats 16000000 in
set_option maxRecDepth 100000 in
theorem mrepack_bad (v t : MsV) (id : Int) (lo fa re : Bool) (sz : Int) (a : Option Addr) (len cap : Nat) (n8 : Nat) (d : List UInt8) (w : World) (hM : MsIn w v) (hT : MsIn w t) (hS : SizesAt w) (hl : len ≤ maxLen) (hE : repE v.m t.m id lo fa re sz len ≠ 0) :
    Calls Tryz.prog 13 #[msV v, msV t, frameV id lo fa re sz a len cap] w (WriteP (repE v.m t.m id lo fa re sz len) t.m.id t.m.lo n8 d w) := by
  have HB0 := Hid.mk (rp_B w v t id lo fa re sz a len cap)
  have HA0 := Hid.mk (rp_v w v t id lo fa re sz a len cap)
  have HT0 := Hid.mk (rp_t w v t id lo fa re sz a len cap)
  have HF0 := Hid.mk (rp_f w v t id lo fa re sz a len cap)
  have HS0 := Hid.mk (rp_s w v t id lo fa re sz a len cap)
  have HC := Hid.mk (mcheck_any t _ (hT.kept HB0.out) (hS.kept HB0.out))
  have HRB := Hid.mk (fun W (h : Below w.heap.size w W) (hne : readE v.m id lo fa re sz len ≠ 0) => mread_bad v id lo fa re sz a len cap W (hM.kept h) (hS.kept h) hl hne)
  have HR : Hid (repE v.m t.m id lo fa re sz len = if chkM t.m ≠ 0 then chkM t.m else readE v.m id lo fa re sz len) := Hid.mk rfl
  generalize repE v.m t.m id lo fa re sz len = WE at *
  generalize readE v.m id lo fa re sz len = RE at *
  generalize chkM t.m = E at *
  obtain ⟨⟨mid, mlo, mnm, size, mch, sigs⟩, ma, mn, mcap⟩ := v
  obtain ⟨⟨tid, tlo, tnm, tsize, tch, tsigs⟩, ta, tn, tcap⟩ := t
  unfold rpW msC frameC at HB0 HA0 HT0 HF0 HS0 HC
  unfold msV at HC HRB ⊢
  unfold frameV at HRB ⊢
  simp only at HB0 HA0 HT0 HF0 HS0 HC HRB ⊢
  have HE := Hid.mk hE
  clear hM hT hS hl hE
  obtain ⟨t0, t1, t2, t3, t4, t5⟩ := HT0.out
  simp only at t0 t1 t2 t3 t4 t5
  by_cases h0 : E = 0
  case neg =>
    have hne : (E != 0) = true := by simpa using h0
    have HV : Hid (WE = E) := Hid.mk (by rw [HR.out, if_pos h0])
    clear h0
    go_enter Tryz.func13, Tryz.ntmps13
    go_wp2_with fail
    refine HC.out.mono ?_
    rintro e w1 ⟨rfl, hb1⟩
    have HB1 := Hid.mk (bl2 HB0.out hb1)
    have HS1 := Hid.mk (HS0.out.kept hb1)
    have HA1 := Hid.mk (HA0.out.kept hb1)
    have HT1 := Hid.mk (HT0.out.kept hb1)
    have HF1 := Hid.mk (HF0.out.kept hb1)
    obtain ⟨m0, m1, m2, m3, m4, m5⟩ := HA1.out
    obtain ⟨c0, c1, c2, c3, c4, c5⟩ := HF1.out
    simp only at m0 m1 m2 m3 m4 m5
    clear hb1 HC
    obtain ⟨⟨z0, z1, z2, z3, z4, z5⟩, y0, y1, y2, y3, y4, y5⟩ := HS1.out.cells
    obtain ⟨⟨p1, q1⟩, ⟨p2, q2⟩, ⟨p3, q3⟩, ⟨p4, q4⟩, ⟨p5, q5⟩, hSX⟩ := HS1.out.store (.int .i64 0) (.bool false) (.bool false) (.bool false) (.int .i64 0) (.slice none 0 0)
    have HSX := Hid.mk hSX
    clear hSX
    go_wp2_with fail
    refine bodyPost_ret (mr_res _ _ (w.heap.size + 3) _ _ _ _ _ _ _ rfl rfl HSX.out) rfl ?_
    refine ⟨six_B HB1.out (by omega) _ _ _ _ _ _, .inl ?_⟩
    exact ⟨HE.out, by rw [HV.out]; rfl⟩
  case pos =>
  subst h0
  have HV : Hid (WE = RE) := Hid.mk (by rw [HR.out, if_neg (by simp)])
  have hne0 : RE ≠ 0 := by rw [← HV.out]; exact HE.out
  have hne : (RE != 0) = true := by simpa using hne0
  have HNE := Hid.mk hne0
  clear hne0
  go_enter Tryz.func13, Tryz.ntmps13
  go_wp2_with fail
  refine HC.out.mono ?_
  rintro e w1 ⟨rfl, hb1⟩
  have HB1 := Hid.mk (bl2 HB0.out hb1)
  have HS1 := Hid.mk (HS0.out.kept hb1)
  have HA1 := Hid.mk (HA0.out.kept hb1)
  have HT1 := Hid.mk (HT0.out.kept hb1)
  have HF1 := Hid.mk (HF0.out.kept hb1)
  obtain ⟨m0, m1, m2, m3, m4, m5⟩ := HA1.out
  obtain ⟨c0, c1, c2, c3, c4, c5⟩ := HF1.out
  simp only at m0 m1 m2 m3 m4 m5
  clear hb1 HC
  go_wp2_with fail
  refine (HRB.out _ HB1.out HNE.out).mono ?_
  rintro e w2 ⟨rfl, hb2⟩
  have HB2 := Hid.mk (bl2 HB1.out hb2)
  have HS2 := Hid.mk (HS1.out.kept hb2)
  clear hb2
  obtain ⟨⟨z0, z1, z2, z3, z4, z5⟩, y0, y1, y2, y3, y4, y5⟩ := HS2.out.cells
  obtain ⟨⟨p1, q1⟩, ⟨p2, q2⟩, ⟨p3, q3⟩, ⟨p4, q4⟩, ⟨p5, q5⟩, hSX⟩ := HS2.out.store (.int .i64 0) (.bool false) (.bool false) (.bool false) (.int .i64 0) (.slice none 0 0)
  have HSX := Hid.mk hSX
  clear hSX
  go_wp2_with fail
  refine bodyPost_ret (mr_res _ _ (w.heap.size + 3) _ _ _ _ _ _ _ rfl rfl HSX.out) rfl ?_
  refine ⟨six_B HB2.out (by omega) _ _ _ _ _ _, .inl ?_⟩
  exact ⟨HE.out, by rw [HV.out]; rfl⟩
set_option maxHeartbeats 16000000 in
set_option maxRecDepth 100000 in
theorem mrepack_ok (v t : MsV) (id : Int) (lo fa re : Bool) (sz : Int) (a : Option Addr) (len cap : Nat) (dt : List UInt8) (n8 : Nat) (w : World) (hM : MsIn w v) (hT : MsIn w t) (hS : SizesAt w) (hD : IsBytes w a len cap dt) (hE : chkM t.m = 0) (hR : readE v.m id lo fa re sz len = 0) (hn8 : t.m.size = n8) :
    Calls Tryz.prog 13 #[msV v, msV t, frameV id lo fa re sz a len cap] w (WriteP 0 t.m.id t.m.lo n8 (fillE (putP (readsD v.m dt)) t.m).2 w) := by
  have hO := chkM_ok hE
  have hOv := (readE_ok hR).1
  have HB0 := Hid.mk (rp_B w v t id lo fa re sz a len cap)
  have HA0 := Hid.mk (rp_v w v t id lo fa re sz a len cap)
  have HT0 := Hid.mk (rp_t w v t id lo fa re sz a len cap)
  have HF0 := Hid.mk (rp_f w v t id lo fa re sz a len cap)
  have HS0 := Hid.mk (rp_s w v t id lo fa re sz a len cap)
  have hC := mcheck_any t _ (hT.kept HB0.out) (hS.kept HB0.out)
  rw [hE] at hC
  have HC := Hid.mk hC
  have HRB := Hid.mk (fun W (h : Below w.heap.size w W) => mread_ok v id lo fa re sz a len cap dt W (hM.kept h) (hS.kept h) (isBytes_below hD h) hR)
  have hsm : ∀ r ∈ readsD v.m dt, r.nm.size ≤ maxLen := by
    intro r hr
    unfold readsD at hr
    obtain ⟨s, hs, rfl⟩ := List.mem_map.1 hr
    have hs' := (List.mem_filter.1 hs).1
    obtain ⟨i, hi, rfl⟩ := List.getElem_of_mem hs'
    have := hOv.sig hi
    unfold Msg.at at this
    rw [getD_at hi] at this
    exact nm_small this
  have HNT := Hid.mk (reads_apart hOv dt)
  have HBN := Hid.mk (fun W a c (h : IsRds W a (readsD v.m dt).length c (readsD v.m dt)) => byName_any a _ c (readsD v.m dt) W h hsm)
  have HFL := Hid.mk (fun l g bm W (hb : Below w.heap.size w W) (hI : WrI l g bm W []) => fill_any 42 #[.pointer (some ⟨g, 0, none⟩)] enter_putP (putP l) (fun W _ => WrI l g bm W []) bm t n8 W (hT.kept hb) hO hn8
    (fun W used s a c d hI hs hnu hD => putP_any l s g bm a n8 c d W hI (hT.wf s hs) (by
      obtain ⟨i, hi, rfl⟩ := List.getElem_of_mem hs
      have := hO.sig hi
      unfold Msg.at at this
      rw [getD_at hi] at this
      exact nm_small this) hD (by
      obtain ⟨i, hi, rfl⟩ := List.getElem_of_mem hs
      have := hO.sig hi
      unfold Msg.at at this
      rw [getD_at hi, hn8] at this
      exact this))
    (fun W W' used h hb => h.kept hb) (fun W used h => by
      obtain ⟨_, k, D, h1, _⟩ := h
      exact h1.map) hI)
  have HFZ := Hid.mk (fillP_zero (readsD v.m dt) t.m)
  have HFL2 := Hid.mk (fun g bm W hb hI => HFL.out (readsD v.m dt) g bm W hb hI)
  clear HFL hsm hO hOv hE hR hC
  generalize fillE (putP (readsD v.m dt)) t.m = FE at *
  generalize usedL (putP (readsD v.m dt)) t.m = UL at *
  generalize readsD v.m dt = RL at *
  obtain ⟨⟨mid, mlo, mnm, size, mch, sigs⟩, ma, mn, mcap⟩ := v
  obtain ⟨⟨tid, tlo, tnm, tsize, tch, tsigs⟩, ta, tn, tcap⟩ := t
  unfold rpW msC frameC at HB0 HA0 HT0 HF0 HS0 HC
  unfold msV at HC HRB HFL2 ⊢
  unfold frameV at HRB ⊢
  simp only at HB0 HA0 HT0 HF0 HS0 HC HRB HFL2 hn8 ⊢
  subst hn8
  clear hM hT hS hD
  obtain ⟨t0, t1, t2, t3, t4, t5⟩ := HT0.out
  simp only at t0 t1 t2 t3 t4 t5
  go_enter Tryz.func13, Tryz.ntmps13
  go_wp2_with fail
  refine HC.out.mono ?_
  rintro e w1 ⟨rfl, hb1⟩
  have HB1 := Hid.mk (bl2 HB0.out hb1)
  have HS1 := Hid.mk (HS0.out.kept hb1)
  have HA1 := Hid.mk (HA0.out.kept hb1)
  have HT1 := Hid.mk (HT0.out.kept hb1)
  have HF1 := Hid.mk (HF0.out.kept hb1)
  obtain ⟨m0, m1, m2, m3, m4, m5⟩ := HA1.out
  obtain ⟨c0, c1, c2, c3, c4, c5⟩ := HF1.out
  simp only at m0 m1 m2 m3 m4 m5
  clear hb1 HC
  go_wp2_with fail
  refine (HRB.out _ HB1.out).mono ?_
  rintro e w2 ⟨u, rfl, hown, hb2⟩
  obtain ⟨ua, uc, rfl, hR2⟩ := rds_own hown
  have HB2 := Hid.mk (bl2 HB1.out hb2)
  have HS2 := Hid.mk (HS1.out.kept hb2)
  have HT2 := Hid.mk (HT1.out.kept hb2)
  have HBNW := Hid.mk (HBN.out w2 ua uc hR2)
  obtain ⟨nR, hnR⟩ : ∃ nR, nR = RL.length := ⟨_, rfl⟩
  rw [← hnR] at HBNW ⊢
  clear hb2 hown hR2 HBN HRB HS1 HT1 HA1 HF1 hnR
  go_wp2_with fail
  refine HBNW.out.mono ?_
  rintro e w3 ⟨rfl, ⟨D, hMap, hTold⟩, hb3⟩
  have HB3 := Hid.mk (bl2 HB2.out hb3)
  have HS3 := Hid.mk (HS2.out.kept hb3)
  have HT3 := Hid.mk (HT2.out.kept hb3)
  have HA3 := Hid.mk (awB1 w3 (.cells #[.map (some w2.heap.size)] 61))
  have HB4 := Hid.mk (bl2 HB3.out HA3.out)
  have HS4 := Hid.mk (HS3.out.kept HA3.out)
  have HT4 := Hid.mk (HT3.out.kept HA3.out)
  have hg : (w3.alloc (.cells #[.map (some w2.heap.size)] 61)).cell? ⟨w3.heap.size, 0, none⟩ = some (.map (some w2.heap.size)) := cell_of_row _ _ 0 _ _ _ (heap_alloc_new w3 _)
  have HFI := Hid.mk (HFL2.out w3.heap.size w2.heap.size _ HB4.out ⟨hg, nR, D, hMap.kept HA3.out, hTold.left HNT.out⟩)
  have HBM : Hid (w.heap.size ≤ w2.heap.size) := Hid.mk HB2.out.size
  obtain ⟨t0, t1, t2, t3, t4, t5⟩ := HT4.out
  simp only at t0 t1 t2 t3 t4 t5
  clear hMap hTold hb3 hg HFL2
  go_wp2_with fail
  refine HFI.out.mono ?_
  rintro e w5 ⟨hG5, hcase⟩
  have HB5 := Hid.mk (HB4.out.grown hG5.grown HB4.out.size (fun j hj => by cases hj; exact HBM.out))
  have HS5 := Hid.mk (HS4.out.keptG hG5)
  obtain ⟨t0, t1, t2, t3, t4, t5⟩ := HT4.out.keptC hG5.ck
  simp only at t0 t1 t2 t3 t4 t5
  rcases hcase with ⟨hne, _⟩ | ⟨_, a', c', rfl, hB', _⟩
  · exact absurd HFZ.out hne
  have HB' := Hid.mk hB'
  clear hB' hG5 HFI
  obtain ⟨⟨z0, z1, z2, z3, z4, z5⟩, y0, y1, y2, y3, y4, y5⟩ := HS5.out.cells
  obtain ⟨⟨p1, q1⟩, ⟨p2, q2⟩, ⟨p3, q3⟩, ⟨p4, q4⟩, ⟨p5, q5⟩, hSX⟩ := HS5.out.store (.int .i64 tid) (.bool tlo) (.bool false) (.bool false) (.int .i64 0) (.slice a' n8 c')
  have HSX := Hid.mk hSX
  have HBX := Hid.mk (bytes_six HS5.out HB'.out (.int .i64 tid) (.bool tlo) (.bool false) (.bool false) (.int .i64 0) (.slice a' n8 c'))
  clear hSX
  go_wp2_with fail
  refine bodyPost_ret (mr_res _ _ (w.heap.size + 3) _ _ _ _ _ _ _ rfl rfl HSX.out) rfl ?_
  exact ⟨six_B HB5.out (by omega) _ _ _ _ _ _, .inr ⟨rfl, a', c', rfl, HBX.out⟩⟩
end Bw
end Go.Proofs.YtjgliinpaadbnaaGreatDoor
namespace Go.Proofs.YtjgliinpaadbnaaGreatDoor
open Go.ChangeShapes Go.WideShapes Go.ChangeAt Go.RowKit Go.Sort
namespace Bw
open Sm
theorem eqlS_nil (w : World) (cap : Nat) : (binOp .eql 26 (.slice none 0 cap) (.slice none 0 0)).run Tryz.prog w = .ok (.bool true) w :=
  Lib.run_eql_slice_nil w 26 5 none 0 cap 0 0 Tryz.underlying26
set_option maxHeartbeats 4000000 in
set_option maxRecDepth 100000 in
theorem cloneD_nil (w : World) (cap : Nat) :
    Calls Tryz.prog 60 #[.slice none 0 cap] w fun e w' => e = .returned (.slice none 0 0) ∧ w' = w := by
  have he := eqlS_nil w cap
  go_enter Tryz.func60, Tryz.ntmps60
  go_wp2_with fail
  go_ret
  exact ⟨rfl, rfl⟩
set_option maxHeartbeats 4000000 in
set_option maxRecDepth 100000 in
theorem cloneD_some (x : Addr) (len cap : Nat) (dt : List UInt8) (w : World) (hY : IsBytes w (some x) len cap dt) (hlen : len ≤ 140737488351232) :
    Calls Tryz.prog 60 #[.slice (some x) len cap] w fun e w' => ∃ g c, e = .returned (.slice (some ⟨g, 0, none⟩) len c) ∧ w'.ownsRow w.heap.size 5 1 (.slice (some ⟨g, 0, none⟩) len c) len (cellsOf dt) ∧ Below w.heap.size w w' := by
  obtain ⟨i0, hi, hz0, hz1, hz2⟩ := info_parts info_u8
  have hB0 : Below w.heap.size w (w.alloc (.cells #[] 5)) := (Below.refl _ _).alloc (Nat.le_refl _) _
  have hY1 := isBytes_below hY hB0
  have hcl : (cellsOf dt).length = len * 1 := by rw [cellsOf_length, hY.1, Nat.mul_one]
  have hce := hY1.2.2.2.2 x rfl
  have hdl := hY.1
  have he := eqlS_some w x len cap
  have hcc : ∀ q u, (cellsOf dt)[q]? = some u → (w.alloc (.cells #[] 5)).cell? (x.add q) = some u := by
    intro q u hq
    have hq1 : q < dt.length := by
      rcases Nat.lt_or_ge q dt.length with hh | hh
      · exact hh
      · rw [List.getElem?_eq_none (by rw [cellsOf_length]; exact hh)] at hq; cases hq
    rw [hce q (by omega)]
    simp [cellsOf, hq1] at hq
    rw [← hq]; simp [List.getD, hq1]
  have HO := Hid.mk (show (w.alloc (.cells #[] 5)).ownsRow w.heap.size 5 1 (.slice (some ⟨w.heap.size, 0, none⟩) 0 0) 0 [] from World.ownsRow_made w #[] 0 (Nat.le_refl _) (Nat.zero_le _) rfl)
  have HB := Hid.mk hB0
  have HCC := Hid.mk hcc
  have HCL := Hid.mk hcl
  clear hY hB0 hY1 hcl hce hcc hdl
  go_enter Tryz.func60, Tryz.ntmps60
  go_wp2_with (at_builtin; refine wpList_append_own _ rfl (.tmp 5) (.tmp 6) 26 rfl w.heap.size 5 i0 (.int .u8 0) 1 1 Tryz.underlying26 hi hz0 hz1 hz2 rfl (by decide) _ _ _ rfl HO.out x len cap (cellsOf dt) rfl HCL.out HCC.out (by intro u hu; simp [cellsOf] at hu; obtain ⟨c, -, rfl⟩ := hu; rfl) (by unfold maxLen; omega) (by omega) (by simp) ?_; intro v3 w3 hown3 hgrow3 hnil3)
  rw [Nat.zero_add, List.nil_append] at hown3
  obtain ⟨g, c, rfl⟩ : ∃ g c, v3 = .slice (some ⟨g, 0, none⟩) len c := by
    rcases hown3.2 with ⟨h1, _⟩ | ⟨g, c, cur, h1, _⟩
    · have h2 := hnil3.1 h1
      cases h2.1
    · exact ⟨g, c, h1⟩
  have hB3 : Below w.heap.size w w3 := Below.grown HB.out hgrow3 (by simp) (fun q hq => (HO.out.lt q hq).1)
  go_ret
  exact ⟨g, c, rfl, hown3, hB3⟩
theorem put_doc : ((List.range 256).all fun c => (List.range 8).all fun k => (bits .or .u8 (c : Int) (2 ^ k) == (putN c k 1 : Int)) && (bits .and .u8 (c : Int) (255 - 2 ^ k) == (putN c k 0 : Int)) && (IntKind.u8.wrap (2 ^ k) == 2 ^ k) && decide ((2 : Int) ^ k ≤ 128)) = true := by kernel_rfl
theorem put_ops {c k : Nat} (hc : c < 256) (hk : k < 8) : bits .or .u8 (c : Int) (2 ^ k) = (putN c k 1 : Int) ∧ bits .and .u8 (c : Int) (255 - 2 ^ k) = (putN c k 0 : Int) ∧ IntKind.u8.wrap (2 ^ k) = 2 ^ k ∧ (2 : Int) ^ k ≤ 128 := by
  have h := List.all_eq_true.1 (List.all_eq_true.1 put_doc c (List.mem_range.2 hc)) k (List.mem_range.2 hk)
  simpa [and_assoc] using h
set_option maxHeartbeats 16000000 in
set_option maxRecDepth 100000 in
theorem setRaw_any (s : Sig) (st sz : Nat) (a : Option Addr) (len cap : Nat) (l : List UInt8) (r : Int) (w : World) (hD : IsBytes w a len cap l) (hR : Rt s st sz len) :
    Calls Tryz.prog 18 #[sgV s, .slice a len cap, .int .i64 r] w fun e w' => ∃ g c, e = .returned (.slice (some ⟨g, 0, none⟩) len c) ∧
      w'.ownsRow w.heap.size 5 1 (.slice (some ⟨g, 0, none⟩) len c) len (cellsOf (wrS s st sz l r)) ∧ Below w.heap.size w w' := by
  have HB := Hid.mk (sg_box w s)
  have HG := Hid.mk (SgAt.box w s)
  have h1 := hR.s1
  have h40 := hR.s40
  have hst := hR.hst
  have hsz := hR.hsz
  have hstb := hR.st_lt
  have hn64 := hR.n64
  have hP := fun W => placesOf_any s st sz W hst hsz (by omega) h1 h40
  have HPL := Hid.mk (fun (k : Nat) (hk : k < sz) => hR.pl_lt hk)
  unfold wrS
  obtain ⟨nm, sta, sza, bk, sg, mu, di, ad, ky⟩ := s
  simp only at hst hsz
  subst hst
  subst hsz
  unfold sgC at HB HG
  unfold sgV at hP ⊢
  simp only at HB HG hP HPL ⊢
  have HP := Hid.mk hP
  have a1 : (1 : Int) ≤ (sz : Int) := by omega
  have a2 : (sz : Int) ≤ 40 := by omega
  have hlen : (len : Int) ≤ 64 := by omega
  have hlen0 : 1 ≤ len := by omega
  have hlen1 : len ≤ 64 := by omega
  cases a with
  | none => exact absurd (hD.2.2.2.1 rfl) (by omega)
  | some x =>
  have HLL := Hid.mk hD.1
  have HCL := Hid.mk (fun W (hb : Below w.heap.size w W) => cloneD_some x len cap l W (isBytes_below hD hb) (by omega))
  clear hP hR hstb hn64 hD
  go_enter Tryz.func18, Tryz.ntmps18
  go_wp2_with fail
  with_reducible refine (HCL.out _ HB.out).mono ?_
  rintro e w1 ⟨g, c, rfl, hown, hb1⟩
  have hgl : g < w1.heap.size := by
    have := hown.cellAt 0 (by omega)
    rw [cells_at l 0 (by have := HLL.out; omega)] at this
    exact World.block_lt_of_cell? _ _ this
  have hgw : w.heap.size ≤ g := by
    rcases hown.2 with ⟨h0, _⟩ | ⟨g', cap', cur, hv, hg, _⟩
    · cases h0
    · cases hv; have := HB.out.size; omega
  have HO1 := Hid.mk (owns_baseP hown HB.out.size)
  have HB1 := Hid.mk (bl2 HB.out hb1)
  have HG1 := Hid.mk (HG.out.kept hb1)
  have HGL := Hid.mk hgl
  have HGW := Hid.mk hgw
  clear hown hb1 hgl hgw HB HG HCL
  obtain ⟨k0, k1, k2, k3, k4, k5, k6, k7, k8⟩ := HG1.out
  simp only at k0 k1 k2 k3 k4 k5 k6 k7 k8
  go_wp2_with fail
  with_reducible refine (HP.out _).mono ?_
  rintro e w2 ⟨g2, rfl, hg2, hown2, hb2⟩
  have HN := Hid.mk (own_place hown2)
  have HO2 := Hid.mk (ownsRow_below HO1.out hb2)
  have HB2 := Hid.mk (bl2 HB1.out hb2)
  have hne : g ≠ g2 := by have := HGL.out; omega
  clear hown2 hb2 hg2 HO1 HB1 HG1 HP k0 k1 k2 k3 k4 k5 k6 k7 k8
  go_wp2_with fail
  go_loopw [16] (fun i wr => ∃ k : Nat, k ≤ sz ∧ i = .int .i64 k ∧ Hid (wr.ownsRow w.heap.size 5 1 (.slice (some ⟨g, 0, none⟩) len c) len (cellsOf (wrK (plN bk st sz) (bitI r) l k))) ∧ Hid (∀ j, j < sz → wr.cell? ⟨g2, j, none⟩ = some (.int .i64 (plN bk st sz j : Int))) ∧ Hid (Below w.heap.size w wr)) (fun i _ => sz - (intOf i).toNat)
  case atStart => exact ⟨0, Nat.zero_le _, rfl, HO2, HN, HB2⟩
  case round =>
    clear HO2 HN HB2
    obtain ⟨k, hk, rfl, HOk, HNk, HBk⟩ := hrel
    by_cases hlt : k < sz
    · have hlt' : (k : Int) < (sz : Int) := by omega
      have hpc := HNk.out k hlt
      have hpl := HPL.out k hlt
      have hb := bitI_lt r k
      have hwr : wrK (plN bk st sz) (bitI r) l (k + 1) = putB (wrK (plN bk st sz) (bitI r) l k) (plN bk st sz k) (bitI r k) := rfl
      have HWR := Hid.mk hwr
      have hbit := op_bit r k
      have hLl : (wrK (plN bk st sz) (bitI r) l k).length = len := by rw [wrK_length]; exact HLL.out
      generalize wrK (plN bk st sz) (bitI r) l k = L at *
      generalize hpp : plN bk st sz k = p at *
      generalize bitI r k = b at *
      clear hpp
      obtain ⟨y, hy⟩ : ∃ y, y = (L.getD (p / 8) 0).toNat := ⟨_, rfl⟩
      have hy256 : y < 256 := by rw [hy]; exact UInt8.toNat_lt _
      have hk8 : p % 8 < 8 := by omega
      obtain ⟨t1, t2, t3, t4⟩ := put_ops hy256 hk8
      have hyb := putN_lt hy256 hk8 hb
      have hset := cells_set L p b (by rw [← hy]; exact hyb)
      have hat := cells_at L (p / 8) (by omega)
      rw [← hy] at hset hat
      have hc3 := HOk.out.cellAt (p / 8) (by omega)
      have hf3 := HOk.out.frozenAt (p / 8)
      rw [hat] at hc3
      have hstd := HOk.out.stored (p / 8) (.int .u8 (putN y (p % 8) b : Int))
      rw [hset, ← hwr] at hstd
      have HST := Hid.mk hstd
      obtain ⟨Q, hQ⟩ : ∃ Q : Int, Q = 2 ^ (p % 8) := ⟨_, rfl⟩
      have hQ0 : 0 < Q := by rw [hQ]; exact Int.pow_pos (by omega)
      rw [← hQ] at t1 t2 t3 t4
      have q5 : IntKind.u8.wrap (1 * 2 ^ (p % 8)) = Q := by rw [Int.one_mul, ← hQ]; exact t3
      have q6 : IntKind.u8.wrap (2 ^ (p % 8)) = Q := by rw [← hQ]; exact t3
      have hp8 : ((p : Int) / 8).toNat = p / 8 := by omega
      have hp9 : ((p : Int) % 8).toNat = p % 8 := by omega
      have hpl' : (p : Int) < 8 * (len : Int) := by omega
      have hy' : (y : Int) ≤ 255 := by omega
      have hbb : b = 0 ∨ b = 1 := by omega
      clear hwr hLl hy hy256 hk8 hset hat hstd hQ t3 hpl hb HWR
      rcases hbb with rfl | rfl
      · obtain ⟨Y, hY⟩ : ∃ Y, Y = putN y (p % 8) 0 := ⟨_, rfl⟩
        rw [← hY] at t2 hyb HST
        have hY' : (Y : Int) ≤ 255 := by omega
        clear hY t1 hyb
        go_wp2_with fail
        go_roundw
        case rel => exact ⟨k + 1, by omega, by go_num, Hid.mk HST.out.1, Hid.mk (fun j hj => by rw [World.cell?_setCell_far _ _ _ _ hne]; exact HNk.out j hj), Hid.mk (HBk.out.grown HST.out.2 HBk.out.size (fun q hq => by cases hq; exact HGW.out))⟩
        case measure => simp [intOf]; omega
      · obtain ⟨Y, hY⟩ : ∃ Y, Y = putN y (p % 8) 1 := ⟨_, rfl⟩
        rw [← hY] at t1 hyb HST
        have hY' : (Y : Int) ≤ 255 := by omega
        clear hY t2 hyb
        go_wp2_with fail
        go_roundw
        case rel => exact ⟨k + 1, by omega, by go_num, Hid.mk HST.out.1, Hid.mk (fun j hj => by rw [World.cell?_setCell_far _ _ _ _ hne]; exact HNk.out j hj), Hid.mk (HBk.out.grown HST.out.2 HBk.out.size (fun q hq => by cases hq; exact HGW.out))⟩
        case measure => simp [intOf]; omega
    · have e : k = sz := by omega
      subst e
      go_wp2_with fail
      go_ret
      exact ⟨g, c, rfl, HOk.out, HBk.out⟩
end Bw
end Go.Proofs.YtjgliinpaadbnaaGreatDoor
namespace Go.Proofs.YtjgliinpaadbnaaGreatDoor
open Go.ChangeShapes Go.WideShapes Go.ChangeAt Go.RowKit
namespace Bw
open Sm
/-- the bytes after the first k readings -/
def dpK (l : List Rd) (s : Sig) (d : List UInt8) : Nat → List UInt8
  | 0 => d
  | k + 1 => if (rdAt l k).nm = s.nm then (if rwE s (rdAt l k).num (rdAt l k).den = 0 then wrD s (dpK l s d k) (rdAt l k).num (rdAt l k).den else dpK l s d k) else dpK l s d k
theorem dpK_same {l : List Rd} {s : Sig} {d : List UInt8} : ∀ {k : Nat}, (∀ i, i < k → (rdAt l i).nm ≠ s.nm) → dpK l s d k = d
  | 0, _ => rfl
  | k + 1, h => by
    simp only [dpK, if_neg (h k (by omega))]
    exact dpK_same (fun i hi => h i (by omega))
theorem dpK_stay {l : List Rd} {s : Sig} {d : List UInt8} {k : Nat} : ∀ {n : Nat}, k ≤ n → (∀ i, k ≤ i → i < n → (rdAt l i).nm ≠ s.nm) → dpK l s d n = dpK l s d k
  | 0, hk, _ => by rw [show k = 0 by omega]
  | n + 1, hk, h => by
    by_cases e : k = n + 1
    · rw [e]
    · simp only [dpK, if_neg (h n (by omega) (by omega))]
      exact dpK_stay (by omega) (fun i h1 h2 => h i h1 (by omega))
theorem dpK_all {l : List Rd} (hN : NoTwo l) (s : Sig) (d : List UInt8) : dpK l s d l.length = (putP l s d).2 := by
  cases hf : findR l s.nm with
  | none =>
    rw [dpK_same (fun i hi => findR_none hf i hi)]
    unfold putP
    rw [hf]
  | some r =>
    obtain ⟨i, hi, e1, e2⟩ := findR_some hf
    have h1 : dpK l s d i = d := dpK_same (fun j hj e => hN j i hj hi (by rw [e, e1, e2]))
    have h2 : dpK l s d l.length = dpK l s d (i + 1) := dpK_stay (by omega) (fun j hj hj2 e => hN i j (by omega) hj2 (by rw [e, e1, e2]))
    rw [h2]
    unfold putP
    rw [hf]
    simp only [dpK, e1, if_pos e2, h1]
    split <;> rfl
/-- a variable of bytes -/
def DvAt (w : World) (g : Nat) (a : Option Addr) (n c : Nat) : Prop := w.heap[g]? = some (.cells #[.slice a n c] 26 (0, 0))
theorem DvAt.lt {w : World} {g : Nat} {a : Option Addr} {n c : Nat} (h : DvAt w g a n c) : g < w.heap.size := (Array.getElem?_eq_some_iff.1 h).1
theorem DvAt.kept {w w' : World} {g : Nat} {a : Option Addr} {n c : Nat} (h : DvAt w g a n c) (hb : Below w.heap.size w w') : DvAt w' g a n c := by unfold DvAt; rw [hb.block g h.lt]; exact h
def notSl (v : Value) : Prop := ∀ a n c, v ≠ .slice a n c
/-- what is no slice stands while the variable is written -/
theorem dv_cell {w w' : World} {g : Nat} {a : Option Addr} {n c : Nat} (h : DvAt w g a n c) (hg : w.grownBy w' (some g)) {y : Addr} {v : Value} (hv : w.cell? y = some v) (hn : notSl v) : w'.cell? y = some v :=
  hg.cell hv (fun e => by
    have e1 : y.block = g := by simpa using e
    unfold World.cell? at hv
    unfold DvAt at h
    rw [e1, h] at hv
    simp only at hv
    generalize y.off = o at hv
    rcases o with _ | o
    · simp at hv
      exact hn a n c hv.2.symm
    · simp at hv)
theorem dv_sig {w w' : World} {g : Nat} {a : Option Addr} {n c : Nat} (h : DvAt w g a n c) (hg : w.grownBy w' (some g)) {b : Nat} {s : Sig} (hs : SgAt w b s) : SgAt w' b s :=
  ⟨dv_cell h hg hs.c0 (fun _ _ _ e => by cases e), dv_cell h hg hs.c1 (fun _ _ _ e => by cases e), dv_cell h hg hs.c2 (fun _ _ _ e => by cases e), dv_cell h hg hs.c3 (fun _ _ _ e => by cases e), dv_cell h hg hs.c4 (fun _ _ _ e => by cases e), dv_cell h hg hs.c5 (fun _ _ _ e => by cases e), dv_cell h hg hs.c6 (fun _ _ _ e => by cases e), dv_cell h hg hs.c7 (fun _ _ _ e => by cases e), dv_cell h hg hs.c8 (fun _ _ _ e => by cases e)⟩
theorem dv_rds {w w' : World} {g : Nat} {a : Option Addr} {n c : Nat} (h : DvAt w g a n c) (hg : w.grownBy w' (some g)) {la : Option Addr} {ln lc : Nat} {l : List Rd} (hl : IsRds w la ln lc l) : IsRds w' la ln lc l :=
  ⟨hl.len, hl.le, hl.max, hl.none, fun x hx i hi k hk => by
    have h1 := hl.cell x hx i hi k hk
    have h2 : k < (rdCl l[i]).length := hk
    rw [List.getElem?_eq_getElem h2] at h1 ⊢
    refine dv_cell h hg h1 ?_
    unfold rdCl at h2 ⊢
    match k, hk with
    | 0, _ => exact fun _ _ _ e => by cases e
    | 1, _ => exact fun _ _ _ e => by cases e
    | 2, _ => exact fun _ _ _ e => by cases e⟩
theorem dv_bytes {w w' : World} {g : Nat} {a : Option Addr} {n c : Nat} (h : DvAt w g a n c) (hg : w.grownBy w' (some g)) {b : Option Addr} {len cap : Nat} {l : List UInt8} (hB : IsBytes w b len cap l) : IsBytes w' b len cap l :=
  ⟨hB.1, hB.2.1, hB.2.2.1, hB.2.2.2.1, fun x hx i hi => dv_cell h hg (hB.2.2.2.2 x hx i hi) (fun _ _ _ e => by cases e)⟩
theorem grown_below {w w' : World} {r : Option Nat} (h : Below w.heap.size w w') : w.grownBy w' r := ⟨h.os, h.tape, h.output, h.size, fun k hk _ => h.block k hk⟩
theorem grown_trans {a b c : World} {r : Option Nat} (h : a.grownBy b r) (h' : b.grownBy c r) : a.grownBy c r :=
  ⟨h'.os.trans h.os, h'.tape.trans h.tape, h'.output.trans h.output, Nat.le_trans h.size h'.size, fun k hk hne => (h'.block k (Nat.lt_of_lt_of_le hk h.size) hne).trans (h.block k hk hne)⟩
/-- Unmean, in one sentence -/
theorem unmeanD_any (s : Sig) {n : Nat} (num den : Int) (w : World) (hE : chkS s n = 0) :
    Calls Tryz.prog 17 #[sgV s, .int .i64 num, .int .i64 den] w fun e w' => e = .returned (.tuple #[.int .i64 (if rwE s num den = 0 then rawV s num den else 0), .int .i64 (rwE s num den)]) ∧ Below w.heap.size w w' := by
  obtain ⟨st, sz, hR⟩ := right_of hE
  have e1 : rwE s num den = rawE s sz num den := by unfold rwE; rw [hR.hsz, Int.toNat_natCast]
  rw [e1]
  cases hf : fracB num den with
  | true => exact unmean_ok s st sz n num den w hR hf
  | false =>
    have e2 : rawE s sz num den = 3 := by unfold rawE; simp [hf]
    rw [e2]
    exact unmean_bad s num den w hf
theorem setD_any (s : Sig) (a : Option Addr) (len cap : Nat) (l : List UInt8) (num den : Int) (w : World) (hD : IsBytes w a len cap l) (hE : chkS s len = 0) :
    Calls Tryz.prog 18 #[sgV s, .slice a len cap, .int .i64 (rawV s num den)] w fun e w' => ∃ a' c, e = .returned (.slice a' len c) ∧ IsBytes w' a' len c (wrD s l num den) ∧ Below w.heap.size w w' := by
  obtain ⟨st, sz, hR⟩ := right_of hE
  have e2 : wrD s l num den = wrS s st sz l (rawV s num den) := by unfold wrD; rw [hR.hst, hR.hsz, Int.toNat_natCast, Int.toNat_natCast]
  rw [e2]
  refine (setRaw_any s st sz a len cap l (rawV s num den) w hD hR).mono ?_
  rintro e w' ⟨g, c, h1, h2, h3⟩
  exact ⟨_, c, h1, isBytes_ownM h2, h3⟩
set_option maxHeartbeats 16000000 in
set_option maxRecDepth 100000 in
theorem dput_any (l : List Rd) (s : Sig) (gl gd : Nat) (la : Option Addr) (ln lc : Nat) (a : Option Addr) (len cap : Nat) (d : List UInt8) (w : World) (hl : w.cell? ⟨gl, 0, none⟩ = some (.slice la ln lc)) (hL : IsRds w la ln lc l) (hDv : DvAt w gd a len cap) (hD : IsBytes w a len cap d) (hN : NoTwo l) (hE : chkS s len = 0) :
    Calls Tryz.prog 16 #[sgV s, .pointer (some ⟨gl, 0, none⟩), .pointer (some ⟨gd, 0, none⟩)] w fun e w' => e = .returned (.tuple #[]) ∧ w.grownBy w' (some gd) ∧ ∃ a' c', DvAt w' gd a' len c' ∧ IsBytes w' a' len c' (putP l s d).2 := by
  have HBX := Hid.mk (sg_box w s)
  have HSA := Hid.mk (SgAt.box w s)
  have hl1 := cell_kept HBX.out hl
  have HL1 := Hid.mk (hL.kept HBX.out)
  have HDv1 := Hid.mk (hDv.kept HBX.out)
  have HD1 := Hid.mk (isBytes_below hD HBX.out)
  have hlen : l.length = ln := hL.len
  have hall := dpK_all hN s d
  rw [hlen] at hall
  rw [← hall]
  have HUM := Hid.mk (fun num den W => unmeanD_any s (n := len) num den W hE)
  have HSR := Hid.mk (fun a c d num den W (h : IsBytes W a len c d) => setD_any s a len c d num den W h hE)
  have HST : Hid (∀ k, dpK l s d (k + 1) = if (rdAt l k).nm = s.nm then (if rwE s (rdAt l k).num (rdAt l k).den = 0 then wrD s (dpK l s d k) (rdAt l k).num (rdAt l k).den else dpK l s d k) else dpK l s d k) := Hid.mk (fun _ => rfl)
  have HZ : Hid (dpK l s d 0 = d) := Hid.mk rfl
  have HAT : Hid (∀ k, l.getD k noR = rdAt l k) := Hid.mk (fun _ => rfl)
  have hn63 : (ln : Int) ≤ 9223372036854775807 := by have h1 := hL.le; have h2 := hL.max; unfold maxLen at h2; omega
  clear hl hL hDv hD hN hE hlen hall
  generalize dpK l s d = DK at *
  obtain ⟨W0, hW0⟩ : ∃ W0, W0 = w.alloc (sgC s) := ⟨_, rfl⟩
  rw [← hW0] at HBX HSA HL1 HDv1 HD1
  obtain ⟨g0, hg0⟩ : ∃ g0, g0 = w.heap.size := ⟨_, rfl⟩
  rw [← hg0] at HSA
  have HG0 := Hid.mk hg0
  clear hg0
  generalize hRW : rwE s = RW at *
  generalize hWD : wrD s = WD at *
  generalize hRV : rawV s = RV0 at *
  clear hRW hWD hRV
  obtain ⟨nm, st, sz, bk, sg, mu, di, ad, ky⟩ := s
  unfold sgC at hW0 hl1
  unfold sgV at HUM HSR ⊢
  simp only at hW0 hl1 HUM HSR HST HSA ⊢
  have HW0 := Hid.mk hW0
  clear hW0
  go_enter Tryz.func16, Tryz.ntmps16
  go_wp2_with fail
  rw [← HW0.out]
  clear hl1
  go_loopw [10] (fun i wr => ∃ k : Nat, k ≤ ln ∧ i = .int .i64 k ∧ ∃ a c, Hid (DvAt wr gd a len c) ∧ Hid (IsBytes wr a len c (DK k)) ∧ Hid (W0.grownBy wr (some gd))) (fun i _ => ln - (intOf i).toNat)
  case atStart => exact ⟨0, Nat.zero_le _, rfl, a, cap, HDv1, by rw [HZ.out]; exact HD1, Hid.mk ⟨rfl, rfl, rfl, Nat.le_refl _, fun _ _ _ => rfl⟩⟩
  case round =>
    obtain ⟨k, hk, rfl, ak, ck, HDv, HD, HGR⟩ := hrel
    by_cases hlt : k < ln
    · have hlt' : (k : Int) < (ln : Int) := by omega
      obtain ⟨x, hx⟩ := HL1.out.some hlt
      cases hx
      obtain ⟨g0', g1, g2⟩ := (dv_rds HDv1.out HGR.out HL1.out).at hlt
      have HSg := Hid.mk (dv_sig HDv1.out HGR.out HSA.out)
      have HSTk := Hid.mk (HST.out k)
      have HVV : Hid (∃ y, y = rdAt l k) := Hid.mk ⟨_, rfl⟩
      obtain ⟨r, hr⟩ := HVV.out
      rw [HAT.out, ← hr] at g0' g1 g2
      simp only [← hr] at HSTk
      clear hr HVV
      obtain ⟨rn, rnum, rden⟩ := r
      simp only at g0' g1 g2 HSTk
      have HAL := Hid.mk (awB1 wr (.cells #[.string rn, .int .i64 rnum, .int .i64 rden] 44))
      have HRC := Hid.mk (rd_cells wr rn rnum rden)
      have HSg1 := Hid.mk (HSg.out.kept HAL.out)
      have HDv2 := Hid.mk (HDv.out.kept HAL.out)
      have HD2 := Hid.mk (isBytes_below HD.out HAL.out)
      have HGR2 := Hid.mk (grown_trans HGR.out (grown_below HAL.out))
      obtain ⟨s0, s1, s2, s3, s4, s5, s6, s7, s8⟩ := HSg1.out
      obtain ⟨r0, r1, r2⟩ := HRC.out
      simp only at s0 s1 s2 s3 s4 s5 s6 s7 s8
      rw [HG0.out] at s0 s1 s2 s3 s4 s5 s6 s7 s8
      by_cases hnm : rn = nm
      case neg =>
        have e0 := str_no hnm
        have HN : Hid (DK (k + 1) = DK k) := Hid.mk (by rw [HSTk.out, if_neg hnm])
        clear hnm
        go_wp2_with fail
        go_roundw
        case rel => exact ⟨k + 1, by omega, by go_num, ak, ck, HDv2, by rw [HN.out]; exact HD2, HGR2⟩
        case measure => simp [intOf]; omega
      case pos =>
        have e0 := str_yes hnm
        have HN : Hid (DK (k + 1) = if RW rnum rden = 0 then WD (DK k) rnum rden else DK k) := Hid.mk (by rw [HSTk.out, if_pos hnm])
        have HUk := Hid.mk (fun W => HUM.out rnum rden W)
        have HSk := Hid.mk (fun W h => HSR.out ak ck (DK k) rnum rden W h)
        clear hnm HSTk
        generalize RW rnum rden = RE at *
        generalize RV0 rnum rden = RVV at *
        by_cases hz : RE = 0
        case neg =>
          have hz' : (RE == 0) = false := by simpa using hz
          have HN2 : Hid (DK (k + 1) = DK k) := Hid.mk (by rw [HN.out, if_neg hz])
          rw [if_neg hz] at HUk
          clear hz
          go_wp2_with fail
          refine (HUk.out _).mono ?_
          rintro e w5 ⟨rfl, hb5⟩
          have HDv5 := Hid.mk (HDv2.out.kept hb5)
          have HD5 := Hid.mk (isBytes_below HD2.out hb5)
          have HGR5 := Hid.mk (grown_trans HGR2.out (grown_below hb5))
          clear hb5
          go_wp2_with fail
          go_roundw
          case rel => exact ⟨k + 1, by omega, by go_num, ak, ck, HDv5, by rw [HN2.out]; exact HD5, HGR5⟩
          case measure => simp [intOf]; omega
        case pos =>
          subst hz
          have HN2 : Hid (DK (k + 1) = WD (DK k) rnum rden) := Hid.mk (by rw [HN.out, if_pos rfl])
          rw [if_pos rfl] at HUk
          go_wp2_with fail
          refine (HUk.out _).mono ?_
          rintro e w5 ⟨rfl, hb5⟩
          have HDv5 := Hid.mk (HDv2.out.kept hb5)
          have HD5 := Hid.mk (isBytes_below HD2.out hb5)
          have HGR5 := Hid.mk (grown_trans HGR2.out (grown_below hb5))
          obtain ⟨s0, s1, s2, s3, s4, s5, s6, s7, s8⟩ := HSg1.out.kept hb5
          simp only at s0 s1 s2 s3 s4 s5 s6 s7 s8
          rw [HG0.out] at s0 s1 s2 s3 s4 s5 s6 s7 s8
          have d0 := cell_of_row _ _ 0 _ _ _ HDv5.out
          simp only [List.getElem?_toArray, List.getElem?_cons_zero] at d0
          clear hb5 HUk
          go_wp2_with fail
          refine (HSk.out _ HD5.out).mono ?_
          rintro e w6 ⟨a6, c6, rfl, hB6, hb6⟩
          have HDv6 := Hid.mk (HDv5.out.kept hb6)
          have q0 := cell_of_row _ _ 0 _ _ _ HDv6.out
          have f0 := frozen_of_row _ _ 0 _ _ HDv6.out
          simp only [List.getElem?_toArray, List.getElem?_cons_zero] at q0
          have HDv7 : Hid (DvAt (w6.setCell ⟨gd, 0, none⟩ (.slice a6 len c6)) gd a6 len c6) := Hid.mk (heap_setCell_same w6 gd 0 _ _ (.slice a6 len c6) HDv6.out)
          have hg7 : w6.grownBy (w6.setCell ⟨gd, 0, none⟩ (.slice a6 len c6)) (some gd) := ⟨rfl, rfl, rfl, by simp, fun k _ hk => heap_setCell_other w6 ⟨gd, 0, none⟩ k _ (fun e => hk (by rw [e]))⟩
          have HGR7 := Hid.mk (grown_trans (grown_trans HGR5.out (grown_below hb6)) hg7)
          have HB7 := Hid.mk (dv_bytes HDv6.out hg7 hB6)
          clear hb6 hg7 hB6 s0 s1 s2 s3 s4 s5 s6 s7 s8 d0 HSk
          go_wp2_with fail
          go_roundw
          case rel => exact ⟨k + 1, by omega, by go_num, a6, c6, HDv7, by rw [HN2.out]; exact HB7, HGR7⟩
          case measure => simp [intOf]; omega
    · have e : k = ln := by omega
      subst e
      go_wp2_with fail
      go_end0
      exact ⟨rfl, grown_trans (grown_below HBX.out) HGR.out, ak, ck, HDv.out, HD.out⟩
end Bw
end Go.Proofs.YtjgliinpaadbnaaGreatDoor
namespace Go.Proofs.YtjgliinpaadbnaaGreatDoor
open Go.ChangeShapes Go.WideShapes Go.ChangeAt Go.RowKit
namespace Bw
theorem noFrame_zero (w : World) :
    Calls Tryz.prog 10 #[frameV 0 false false false 0 none 0 0] w fun e w' => e = .returned (.bool true) ∧ Below w.heap.size w w' := noFrameN w
theorem FrAt.blk {w w' : World} {g : Nat} {id : Int} {lo fa re : Bool} {sz : Int} {a : Option Addr} {len cap : Nat} (h : FrAt w g id lo fa re sz a len cap) (hb : w'.heap[g]? = w.heap[g]?) : FrAt w' g id lo fa re sz a len cap :=
  ⟨(World.cell?_of_block (a := ⟨g, 0, none⟩) hb).trans h.c0, (World.cell?_of_block (a := ⟨g, 1, none⟩) hb).trans h.c1, (World.cell?_of_block (a := ⟨g, 2, none⟩) hb).trans h.c2, (World.cell?_of_block (a := ⟨g, 3, none⟩) hb).trans h.c3, (World.cell?_of_block (a := ⟨g, 4, none⟩) hb).trans h.c4, (World.cell?_of_block (a := ⟨g, 5, none⟩) hb).trans h.c5⟩
end Bw
end Go.Proofs.YtjgliinpaadbnaaGreatDoor
namespace Go.Proofs.YtjgliinpaadbnaaGreatDoor
open Go.ChangeShapes Go.WideShapes Go.ChangeAt Go.RowKit
namespace Bw
open Sm
def wB (dt : List UInt8) (s : Sig) (d : List UInt8) : List UInt8 := wrS s s.st.toNat s.sz.toNat d (rawD s dt)
theorem wB_len (dt : List UInt8) (s : Sig) (d : List UInt8) : (wB dt s d).length = d.length := wrK_length _ _ _ _
theorem rt_of {s : Sig} {n : Nat} (h : chkS s n = 0) : Rt s s.st.toNat s.sz.toNat n := by
  obtain ⟨st, sz, hR⟩ := right_of h
  rw [hR.hst, hR.hsz, Int.toNat_natCast, Int.toNat_natCast]
  exact hR
theorem wB_self {dt : List UInt8} {s : Sig} {n : Nat} {d : List UInt8} (h : chkS s n = 0) (hd : d.length = n) : rawD s (wB dt s d) = rawD s dt := by
  have hR := rt_of h
  have hsp := rawR_span hR dt
  unfold rawD wB
  exact raw_of_bits hR (fun i hi => wrS_at hR hd _ hi) hsp.1 hsp.2
theorem wB_other {dt : List UInt8} {s t : Sig} {n : Nat} {d : List UInt8} (h : chkS s n = 0) (h' : chkS t n = 0) (ho : ovS s t = false) (hd : d.length = n) : rawD s (wB dt t d) = rawD s d := by
  have hR := rt_of h
  have hR' := rt_of h'
  have ha := ovN_apart (show ovN s.bk s.st.toNat s.sz.toNat t.bk t.st.toNat t.sz.toNat = false from ho)
  have hu : uN s.bk s.st.toNat s.sz.toNat (wB dt t d) = uN s.bk s.st.toNat s.sz.toNat d := by
    unfold uN
    exact sumK_congr (fun i hi => wrS_other hR' hd _ (fun j hj e => ha j hj i hi e.symm))
  unfold rawD rawR
  rw [hu]
def foldW (dt : List UInt8) (L : List Sig) (d : List UInt8) : List UInt8 := L.foldl (fun d s => wB dt s d) d
theorem foldW_len (dt : List UInt8) : ∀ (L : List Sig) (d : List UInt8), (foldW dt L d).length = d.length
  | [], _ => rfl
  | s :: r, d => (foldW_len dt r (wB dt s d)).trans (wB_len dt s d)
theorem fold_other {dt : List UInt8} {s : Sig} {n : Nat} (h : chkS s n = 0) : ∀ (L : List Sig) (d : List UInt8), d.length = n → (∀ t ∈ L, chkS t n = 0 ∧ ovS s t = false) → rawD s (foldW dt L d) = rawD s d
  | [], _, _, _ => rfl
  | t :: r, d, hd, hL => by
    have h1 := hL t (by simp)
    have h2 := fold_other (dt := dt) h r (wB dt t d) (by rw [wB_len]; exact hd) (fun x hx => hL x (by simp [hx]))
    exact h2.trans (wB_other h h1.1 h1.2 hd)
theorem fold_self {dt : List UInt8} {s : Sig} {n : Nat} : ∀ (L : List Sig) (d : List UInt8), d.length = n → (∀ t ∈ L, chkS t n = 0) → L.Pairwise (fun a b => ovS a b = false) → s ∈ L → rawD s (foldW dt L d) = rawD s dt
  | [], _, _, _, _, hs => by cases hs
  | x :: r, d, hd, hL, hp, hs => by
    obtain ⟨h1, h2⟩ := List.pairwise_cons.1 hp
    by_cases hr : s ∈ r
    · exact fold_self r (wB dt x d) (by rw [wB_len]; exact hd) (fun t ht => hL t (by simp [ht])) h2 hr
    · have e : s = x := by
        rcases List.mem_cons.1 hs with h | h
        · exact h
        · exact absurd h hr
      subst e
      have hc := hL s (by simp)
      have := fold_other (dt := dt) hc r (wB dt s d) (by rw [wB_len]; exact hd) (fun t ht => ⟨hL t (by simp [ht]), h1 t ht⟩)
      exact this.trans (wB_self hc hd)
theorem goE_fold {put : PutF} {dt : List UInt8} : ∀ (L : List Sig) (d : List UInt8), (∀ s ∈ L, ∀ d, put s d = (0, wB dt s d)) → goE put L d = (0, foldW dt L d)
  | [], _, _ => rfl
  | s :: r, d, h => by
    have h1 := h s (by simp) d
    simp only [goE, h1, if_true]
    exact goE_fold r _ (fun x hx => h x (by simp [hx]))
theorem findR_mem {l : List Rd} (hn : NoTwo l) {r : Rd} (hr : r ∈ l) : findR l r.nm = some r := by
  obtain ⟨i, hi, rfl⟩ := List.getElem_of_mem hr
  cases hf : findR l (l[i]).nm with
  | none =>
    have := findR_none hf i hi
    unfold rdAt at this
    rw [getD_at hi] at this
    exact absurd rfl this
  | some r' =>
    obtain ⟨j, hj, e1, e2⟩ := findR_some hf
    unfold rdAt at e1
    rw [getD_at hj] at e1
    congr 1
    rw [← e1]
    by_cases e : j = i
    · subst e; rfl
    · exfalso
      rcases Nat.lt_or_ge j i with h | h
      · have := hn j i h hi
        unfold rdAt at this
        rw [getD_at hj, getD_at hi, e1] at this
        exact this e2
      · have := hn i j (by omega) hj
        unfold rdAt at this
        rw [getD_at hj, getD_at hi, e1] at this
        exact this e2.symm
theorem reads_mem {m : Msg} {dt : List UInt8} {i : Nat} (hi : i < m.sigs.length) (h : thB (choD m dt) (m.at i) = true) : rdD (m.at i) dt ∈ readsD m dt := by
  unfold readsD
  exact List.mem_map.2 ⟨m.at i, List.mem_filter.2 ⟨m.mem hi, h⟩, rfl⟩
/-- all that is told has room -/
def Room (l : List Rd) : Prop := ∀ r ∈ l, -1099511627776 ≤ r.num ∧ r.num ≤ 1099511627776
theorem put_facts {m : Msg} (hO : OkM m) {n : Nat} (hn : m.size = n) {dt : List UInt8} (hrm : Room (readsD m dt)) {i : Nat} (hi : i < m.sigs.length) (h : thB (choD m dt) (m.at i) = true) (d : List UInt8) :
    putW (readsD m dt) (m.at i) d = (0, wB dt (m.at i) d) ∧ putP (readsD m dt) (m.at i) d = (0, wB dt (m.at i) d) := by
  have hc := hO.sig hi
  rw [hn] at hc
  have hR := rt_of hc
  have hmem := reads_mem hi h
  have hf : findR (readsD m dt) (m.at i).nm = some (rdD (m.at i) dt) := findR_mem (reads_apart hO dt) hmem
  have hro := hrm _ hmem
  have hsp := rawR_span hR dt
  have hb := back_frac hR hsp.1 hsp.2 hro.1 hro.2
  have e1 : rwE (m.at i) (rdD (m.at i) dt).num (rdD (m.at i) dt).den = 0 := hb.1
  have e2 : wrD (m.at i) d (rdD (m.at i) dt).num (rdD (m.at i) dt).den = wB dt (m.at i) d := by
    unfold wrD wB
    have : rawV (m.at i) (rdD (m.at i) dt).num (rdD (m.at i) dt).den = rawD (m.at i) dt := hb.2
    rw [this]
  constructor
  · unfold putW; rw [hf]; simp only [e1, if_true, e2]
  · unfold putP; rw [hf]; simp only [e1, if_true, e2]
theorem ovS_commB (a b : Sig) : ovS a b = ovS b a := by
  have h : ∀ x y : Sig, ovS x y = true → ovS y x = true := by
    intro x y h
    unfold ovS ovN at h
    rw [List.any_eq_true] at h
    obtain ⟨j, hj, h⟩ := h
    rw [List.any_eq_true] at h
    obtain ⟨i, hi, h⟩ := h
    exact ovN_yes (List.mem_range.1 hj) (List.mem_range.1 hi) (by simpa using (beq_iff_eq.1 h).symm)
  cases h1 : ovS a b with
  | true => exact (h a b h1).symm
  | false =>
    cases h2 : ovS b a with
    | false => rfl
    | true => rw [h b a h2] at h1; cases h1
/-- what is there at a time lies apart -/
theorem there_apart {m : Msg} (hO : OkM m) {c : Int} {i j : Nat} (hi : i < m.sigs.length) (hj : j < m.sigs.length) (hne : i ≠ j) (h1 : thB c (m.at i) = true) (h2 : thB c (m.at j) = true) : ovS (m.at i) (m.at j) = false := by
  have key : ∀ a b : Nat, a < b → b < m.sigs.length → thB c (m.at a) = true → thB c (m.at b) = true → ovS (m.at a) (m.at b) = false := by
    intro a b hab hb ha' hb'
    rcases (bes_parts (hO.bes hb hab)).2 with h | h
    · exact h
    · exfalso
      unfold nevB at h
      simp only [Bool.and_eq_true, decide_eq_true_eq] at h
      unfold thB at ha' hb'
      simp only [Bool.or_eq_true, beq_iff_eq] at ha' hb'
      have h3 : ¬ (m.at a).ky = (m.at b).ky := by simpa using h.2.2
      omega
  rcases Nat.lt_or_ge i j with h | h
  · exact key i j h hj h1 h2
  · rw [ovS_commB]
    exact key j i (by omega) hi h2 h1
theorem OkM.choo {m : Msg} (h : OkM m) (hc : 0 ≤ m.ch) : (m.at m.ch.toNat).ky = -1 := by
  have h1 := h.well
  unfold wellB at h1
  rw [Bool.and_eq_true, Bool.or_eq_true] at h1
  have h2 : chooB (m.at m.ch.toNat) = true := by
    rcases h1.1 with h3 | h3
    · simp at h3; omega
    · exact h3
  unfold chooB at h2
  simp only [Bool.and_eq_true, decide_eq_true_eq] at h2
  have h4 := h.ch1
  obtain ⟨_, _, h5, _⟩ := chk_size (h.sig (i := m.ch.toNat) (by omega))
  unfold numB at h5
  simp only [Bool.and_eq_true] at h5
  have h6 := (inB_iff.1 h5.2.2.2.2.2).1
  omega
theorem cnt_out {P : Nat → Bool} {c0 : Nat} (h : P c0 = true) : ∀ N, ((List.range N).filter P).length = ((List.range N).filter (fun i => !(i == c0) && P i)).length + (if c0 < N then 1 else 0)
  | 0 => rfl
  | N + 1 => by
    have ih := cnt_out h N
    rw [List.range_succ, List.filter_append, List.filter_append, List.length_append, List.length_append, ih]
    by_cases e : N = c0
    · subst e
      simp [h]
    · by_cases hl : c0 < N
      · rw [if_pos hl, if_pos (by omega)]
        cases hp : P N <;> simp [hp, e]
      · rw [if_neg hl, if_neg (by omega)]
        cases hp : P N <;> simp [hp, e]
theorem sigs_range (m : Msg) : m.sigs = (List.range m.sigs.length).map m.at := by
  apply List.ext_getElem
  · simp
  · intro i h1 h2
    simp only [List.getElem_map, List.getElem_range]
    unfold Msg.at
    rw [getD_at h1]
theorem oth_mem {m : Msg} {c : Int} {N : Nat} {s : Sig} (h : s ∈ othK m c N) : ∃ i, i < N ∧ (i : Int) ≠ m.ch ∧ thB c (m.at i) = true ∧ s = m.at i := by
  unfold othK at h
  obtain ⟨i, hi, rfl⟩ := List.mem_map.1 h
  obtain ⟨h1, h2⟩ := List.mem_filter.1 hi
  unfold othB at h2
  rw [Bool.and_eq_true] at h2
  exact ⟨i, List.mem_range.1 h1, by simpa using h2.1, h2.2, rfl⟩
theorem mem_oth {m : Msg} {c : Int} {N i : Nat} (hi : i < N) (hne : (i : Int) ≠ m.ch) (ht : thB c (m.at i) = true) : m.at i ∈ othK m c N := by
  unfold othK
  refine List.mem_map.2 ⟨i, List.mem_filter.2 ⟨List.mem_range.2 hi, ?_⟩, rfl⟩
  unfold othB
  rw [Bool.and_eq_true]
  exact ⟨by simpa using hne, ht⟩
theorem oth_apart {m : Msg} (hO : OkM m) (c : Int) : (othK m c m.sigs.length).Pairwise (fun a b => ovS a b = false) := by
  unfold othK
  rw [List.pairwise_map]
  refine List.Pairwise.imp_of_mem ?_ (List.pairwise_lt_range.filter (othB m c))
  intro a b ha hb hab
  obtain ⟨h1, h2⟩ := List.mem_filter.1 ha
  obtain ⟨h3, h4⟩ := List.mem_filter.1 hb
  unfold othB at h2 h4
  rw [Bool.and_eq_true] at h2 h4
  exact there_apart hO (List.mem_range.1 h1) (List.mem_range.1 h3) (by omega) h2.2 h4.2
/-- the bytes ahead of the others -/
def firstB (m : Msg) (dt : List UInt8) : List UInt8 := if 0 ≤ m.ch then wB dt (m.at m.ch.toNat) (zerosM m) else zerosM m
def backD (m : Msg) (dt : List UInt8) : List UInt8 := foldW dt (othK m (choD m dt) m.sigs.length) (firstB m dt)
theorem cho_there {m : Msg} (hO : OkM m) (dt : List UInt8) (hc : 0 ≤ m.ch) : thB (choD m dt) (m.at m.ch.toNat) = true := by
  unfold thB
  rw [hO.choo hc]
  rfl
theorem firstB_len {m : Msg} {n : Nat} (hn : m.size = n) (dt : List UInt8) : (firstB m dt).length = n := by
  have hz : (zerosM m).length = n := by unfold zerosM; rw [List.length_replicate, hn]; rfl
  unfold firstB
  split
  · rw [wB_len]; exact hz
  · exact hz
theorem cho_first {m : Msg} (hO : OkM m) {n : Nat} (hn : m.size = n) (dt : List UInt8) : choD m (firstB m dt) = choD m dt := by
  by_cases hc : 0 ≤ m.ch
  · have h1 := hO.ch1
    have hs := hO.sig (i := m.ch.toNat) (by omega)
    rw [hn] at hs
    have hz : (zerosM m).length = n := by unfold zerosM; rw [List.length_replicate, hn]; rfl
    unfold choD firstB
    rw [if_pos hc, if_pos hc, if_pos hc]
    exact wB_self hs hz
  · unfold choD
    rw [if_neg hc, if_neg hc]
theorem fill_back {m : Msg} (hO : OkM m) {n : Nat} (hn : m.size = n) {dt : List UInt8} (hrm : Room (readsD m dt)) :
    fillE (putW (readsD m dt)) m = (0, backD m dt) ∧ fillE (putP (readsD m dt)) m = (0, backD m dt) ∧ (chooE (putW (readsD m dt)) m).2 = firstB m dt := by
  have h1 := hO.ch1
  have hcW : chooE (putW (readsD m dt)) m = (0, firstB m dt) := by
    unfold chooE firstB
    by_cases hc : 0 ≤ m.ch
    · rw [if_pos hc, if_pos hc]
      exact (put_facts hO hn hrm (by omega) (cho_there hO dt hc) _).1
    · rw [if_neg hc, if_neg hc]
  have hcP : chooE (putP (readsD m dt)) m = (0, firstB m dt) := by
    unfold chooE firstB
    by_cases hc : 0 ≤ m.ch
    · rw [if_pos hc, if_pos hc]
      exact (put_facts hO hn hrm (by omega) (cho_there hO dt hc) _).2
    · rw [if_neg hc, if_neg hc]
  refine ⟨?_, ?_, by rw [hcW]⟩
  · unfold fillE
    rw [hcW]
    simp only [if_true]
    rw [cho_first hO hn]
    exact goE_fold _ _ (fun s hs d => by
      obtain ⟨i, hi, _, ht, rfl⟩ := oth_mem hs
      exact (put_facts hO hn hrm hi ht d).1)
  · unfold fillE
    rw [hcP]
    simp only [if_true]
    rw [cho_first hO hn]
    exact goE_fold _ _ (fun s hs d => by
      obtain ⟨i, hi, _, ht, rfl⟩ := oth_mem hs
      exact (put_facts hO hn hrm hi ht d).2)
theorem raw_back {m : Msg} (hO : OkM m) {n : Nat} (hn : m.size = n) (dt : List UInt8) {i : Nat} (hi : i < m.sigs.length) (ht : thB (choD m dt) (m.at i) = true) : rawD (m.at i) (backD m dt) = rawD (m.at i) dt := by
  have hchk : ∀ t ∈ othK m (choD m dt) m.sigs.length, chkS t n = 0 := fun t h => by
    obtain ⟨j, hj, _, _, rfl⟩ := oth_mem h
    rw [← hn]
    exact hO.sig hj
  have hs := hO.sig hi
  rw [hn] at hs
  by_cases hc : (i : Int) = m.ch
  · have hci : m.ch.toNat = i := by omega
    have h0 : 0 ≤ m.ch := by omega
    have hz : (zerosM m).length = n := by unfold zerosM; rw [List.length_replicate, hn]; rfl
    have h1 := fold_other (dt := dt) hs (othK m (choD m dt) m.sigs.length) (firstB m dt) (firstB_len hn dt) (fun t h => by
      refine ⟨hchk t h, ?_⟩
      obtain ⟨j, hj, hne, htj, rfl⟩ := oth_mem h
      exact there_apart hO hi hj (fun e => hne (by rw [← e]; exact hc)) ht htj)
    refine h1.trans ?_
    unfold firstB
    rw [if_pos h0, hci]
    exact wB_self hs hz
  · exact fold_self _ _ (firstB_len hn dt) hchk (oth_apart hO _) (mem_oth hi hc ht)
theorem cho_back {m : Msg} (hO : OkM m) {n : Nat} (hn : m.size = n) (dt : List UInt8) : choD m (backD m dt) = choD m dt := by
  by_cases hc : 0 ≤ m.ch
  · have h1 := hO.ch1
    have := raw_back hO hn dt (i := m.ch.toNat) (by omega) (cho_there hO dt hc)
    unfold choD at this ⊢
    rw [if_pos hc, if_pos hc]
    exact this
  · unfold choD
    rw [if_neg hc, if_neg hc]
theorem reads_back {m : Msg} (hO : OkM m) {n : Nat} (hn : m.size = n) (dt : List UInt8) : readsD m (backD m dt) = readsD m dt := by
  unfold readsD
  rw [cho_back hO hn]
  apply List.map_congr_left
  intro s hs
  obtain ⟨h1, h2⟩ := List.mem_filter.1 hs
  obtain ⟨i, hi, rfl⟩ := List.getElem_of_mem h1
  have e : m.sigs[i] = m.at i := by unfold Msg.at; rw [getD_at hi]
  rw [e] at h2 ⊢
  unfold rdD
  rw [raw_back hO hn dt hi h2]
theorem used_back {m : Msg} (hO : OkM m) {n : Nat} (hn : m.size = n) {dt : List UInt8} (hrm : Room (readsD m dt)) : (usedL (putW (readsD m dt)) m).length = (readsD m dt).length := by
  have h1 := hO.ch1
  have hl : (readsD m dt).length = ((List.range m.sigs.length).filter (fun i => thB (choD m dt) (m.at i))).length := by
    unfold readsD
    rw [List.length_map]
    conv => lhs; rw [sigs_range m]
    rw [List.filter_map, List.length_map]
    rfl
  unfold usedL
  rw [(fill_back hO hn hrm).2.2, cho_first hO hn, hl, List.length_append, List.length_map]
  unfold othK
  rw [List.length_map]
  by_cases hc : 0 ≤ m.ch
  · rw [if_pos hc]
    have h2 := cnt_out (P := fun i => thB (choD m dt) (m.at i)) (c0 := m.ch.toNat) (cho_there hO dt hc) m.sigs.length
    rw [if_pos (by omega)] at h2
    rw [h2]
    have e : (List.range m.sigs.length).filter (othB m (choD m dt)) = (List.range m.sigs.length).filter (fun i => !(i == m.ch.toNat) && thB (choD m dt) (m.at i)) := by
      apply List.filter_congr
      intro i _
      unfold othB
      have hb : ((i : Int) == m.ch) = (i == m.ch.toNat) := by
        rw [Bool.eq_iff_iff, beq_iff_eq, beq_iff_eq]
        omega
      rw [hb]
    rw [e]
    simp
    omega
  · rw [if_neg hc]
    have e : (List.range m.sigs.length).filter (othB m (choD m dt)) = (List.range m.sigs.length).filter (fun i => thB (choD m dt) (m.at i)) := by
      apply List.filter_congr
      intro i _
      unfold othB
      have : ¬ (i : Int) = m.ch := by omega
      simp [this]
    rw [e]
    simp
theorem write_back {m : Msg} (hO : OkM m) (hC : chkM m = 0) {n : Nat} (hn : m.size = n) {dt : List UInt8} (hrm : Room (readsD m dt)) : writeE m (readsD m dt) = 0 := by
  unfold writeE
  rw [if_neg (by rw [hC]; simp), if_neg (by rw [dupE_zero.2 (reads_apart hO dt)]; simp), (fill_back hO hn hrm).1, if_neg (by simp), if_neg (by rw [used_back hO hn hrm]; omega)]
theorem read_back2 {m : Msg} (hO : OkM m) (hC : chkM m = 0) {n : Nat} (hn : m.size = n) : readE m m.id m.lo false false 0 n = 0 := by
  have hf : frEn m.id m.lo false false 0 n = 0 := by
    have h1 := hO.fr
    have h8 := hO.size8
    unfold frEn at h1 ⊢
    split at h1
    · omega
    rename_i h2
    rw [if_neg h2, if_neg (by simp), if_neg (by simp), if_neg (by omega), if_pos]
    have h9 : n ≤ 8 := by omega
    have hall : ∀ k, k ≤ 8 → k ∈ sizesL := by decide
    exact hall n h9
  unfold readE
  rw [if_neg (by rw [hC]; simp), if_neg (by rw [hf]; simp), if_neg (by simp), if_neg (by omega)]
end Bw
end Go.Proofs.YtjgliinpaadbnaaGreatDoor
