/- What message.Repack answers. -/
import Derived.Test.YtgjkioknnjbjfaaDoorMgWriteA
namespace Go.Proofs.YtgjkioknnjbjfaaDoor
open Go.ChangeShapes Go.WideShapes Go.ChangeAt Go.RowKit
namespace Bw
open Sm
/-- what is read of a right message has no name twice -/
theorem reads_apart {m : Msg} (h : OkM m) (dt : List UInt8) : NoTwo (readsD m dt) := by
  have hp : (m.sigs.map Sig.nm).Pairwise (fun a b => a ≠ b) := by
    rw [List.pairwise_map, List.pairwise_iff_getElem]
    intro i j hi hj hij
    have := h.apart hi hj (by omega)
    unfold Msg.at at this
    rw [getD_at hi, getD_at hj] at this
    exact this
  have hq : (readsD m dt).Pairwise (fun a b => a.nm ≠ b.nm) := by
    unfold readsD
    rw [List.pairwise_map] at hp ⊢
    exact (hp.filter _).imp (fun h => h)
  intro i j hij hj
  rw [List.pairwise_iff_getElem] at hq
  have := hq i j (by omega) hj hij
  unfold rdAt
  rw [getD_at (by omega), getD_at hj]
  exact this
/-- what Repack's own way of putting a signal does: it never fails -/
def putP (l : List Rd) (s : Sig) (d : List UInt8) : Int × List UInt8 :=
  match findR l s.nm with
  | none => (0, d)
  | some r => if rwE s r.num r.den = 0 then (0, wrD s d r.num r.den) else (0, d)
theorem putP_zero (l : List Rd) (s : Sig) (d : List UInt8) : (putP l s d).1 = 0 := by
  unfold putP
  split
  · rfl
  · split <;> rfl
theorem goE_zero {put : PutF} (h : ∀ s d, (put s d).1 = 0) : ∀ (l : List Sig) (d : List UInt8), (goE put l d).1 = 0
  | [], _ => rfl
  | s :: r, d => by
    simp only [goE, if_pos (h s d)]
    exact goE_zero h r _
theorem fillP_zero (l : List Rd) (m : Msg) : (fillE (putP l) m).1 = 0 := by
  have hc : (chooE (putP l) m).1 = 0 := by
    unfold chooE
    split
    · exact putP_zero _ _ _
    · rfl
  unfold fillE
  rw [if_pos hc]
  exact goE_zero (putP_zero l) _ _
theorem enter_putP : ∀ args w, (callFunc 41 args).run Tryd.prog w = .ok (.enter 41 args) w := enters_of Tryd.func41 (by kernel_rfl) rfl
set_option maxHeartbeats 8000000 in
set_option maxRecDepth 100000 in
theorem putP_any (l : List Rd) (s : Sig) (g bm : Nat) (a : Option Addr) (len cap : Nat) (d : List UInt8) (w : World) (hI : WrI l g bm w []) (h : wfS s) (hnm : s.nm.size ≤ maxLen) (hD : IsBytes w a len cap d) (hE : chkS s len = 0) :
    Calls Tryd.prog 41 #[sgV s, .slice a len cap, .pointer (some ⟨g, 0, none⟩)] w fun e w' => PutP (putP l s d) (fun w' => WrI l g bm w' []) bm len w e w' := by
  have HI := Hid.mk hI
  obtain ⟨hg, n, D, hM, hL⟩ := hI
  have HBX := Hid.mk (sg_box w s)
  have HSA := Hid.mk (SgAt.box w s)
  have hg1 := cell_kept HBX.out hg
  have HM1 := Hid.mk (hM.kept HBX.out)
  have HMB := Hid.mk hM.map
  have HKEY := Hid.mk (key_is hnm)
  cases hf : findR l s.nm with
  | none =>
    have hp : putP l s d = (0, d) := by unfold putP; rw [hf]
    rw [hp]
    have HH := Hid.mk (hL.none s.nm hf)
    have HU := Hid.mk (Maps.atKey_of_not_has (hL.none s.nm hf) (DataW.held (.agg #[.string ⟨#[]⟩, .int .i64 0, .int .i64 0] : Value)))
    have HB2 := Hid.mk (put_box w s ⟨#[]⟩ 0 0)
    have HRC := Hid.mk (put_rd w s ⟨#[]⟩ 0 0)
    have HSA2 := Hid.mk (HSA.out.kept (awB1 _ (.cells #[.string ⟨#[]⟩, .int .i64 0, .int .i64 0] 43)))
    have HDD := Hid.mk (bytesC hD (CK.below HB2.out))
    have HW := Hid.mk (fun W (hb : IsBytes W a len cap d) => swrite_is s a len cap d 0 0 W h hb hE)
    clear hp hg hM hL h hnm hD hE hf
    generalize rwE s 0 0 = RE at *
    generalize wrD s d 0 0 = WD at *
    obtain ⟨nm, st, sz, bk, sg, mu, di, ad, ky⟩ := s
    unfold sgC at HBX HSA hg1 HM1 HB2 HRC HSA2 HDD
    unfold sgV at HW ⊢
    simp only at HBX HSA hg1 HM1 HB2 HKEY HH HU HRC HSA2 HDD HW ⊢
    obtain ⟨s0, s1, s2, s3, s4, s5, s6, s7, s8⟩ := HSA2.out
    obtain ⟨r1, r2⟩ := HRC.out
    simp only at s0 s1 s2 s3 s4 s5 s6 s7 s8
    go_enter Tryd.func41, Tryd.ntmps41
    go_wp2_with (at_lookup; refine wpList_lookup_rd _ rfl _ _ rfl bm n D rfl HM1.out _ _ rfl HKEY.out _ _ HU.out HH.out ?_)
    refine (HW.out _ HDD.out).mono ?_
    rintro e w2 ⟨hb2, hcase⟩
    have HGM := Hid.mk (GM.below HMB.out (bl2 HB2.out hb2))
    have HI2 := Hid.mk (HI.out.kept (bl2 HB2.out hb2))
    have HD2 := Hid.mk (isBytes_below HDD.out hb2)
    rcases hcase with ⟨hne, rfl⟩ | ⟨hz, a', c, rfl, hB'⟩
    · clear hne hb2
      go_wp2_with fail
      go_ret2
      exact ⟨HGM, .inr ⟨_, _, rfl, Hid.mk ⟨rfl, HD2.out, HI2.out⟩⟩⟩
    · clear hz hb2 hB'
      go_wp2_with fail
      go_ret2
      exact ⟨HGM, .inr ⟨_, _, rfl, Hid.mk ⟨rfl, HD2.out, HI2.out⟩⟩⟩
  | some r =>
    have hhas := hL.some s.nm r hf (by simp)
    have hp : putP l s d = if rwE s r.num r.den = 0 then (0, wrD s d r.num r.den) else (0, d) := by unfold putP; rw [hf]
    have HP := Hid.mk hp
    have HH := Hid.mk hhas.1
    have HU := Hid.mk (hhas.2 (DataW.held (.agg #[.string ⟨#[]⟩, .int .i64 0, .int .i64 0] : Value)))
    have HB2 := Hid.mk (put_box w s r.nm r.num r.den)
    have HRC := Hid.mk (put_rd w s r.nm r.num r.den)
    have HSA2 := Hid.mk (HSA.out.kept (awB1 _ (.cells #[.string r.nm, .int .i64 r.num, .int .i64 r.den] 43)))
    have HDD := Hid.mk (bytesC hD (CK.below HB2.out))
    have HW := Hid.mk (fun W (hb : IsBytes W a len cap d) => swrite_is s a len cap d r.num r.den W h hb hE)
    clear hp hg hM hL h hnm hD hE hf hhas
    generalize putP l s d = PW at *
    generalize rwE s r.num r.den = RE at *
    generalize wrD s d r.num r.den = WD at *
    obtain ⟨nm, st, sz, bk, sg, mu, di, ad, ky⟩ := s
    obtain ⟨rnm, rnum, rden⟩ := r
    unfold rdVal at HU
    unfold sgC at HBX HSA hg1 HM1 HB2 HRC HSA2 HDD
    unfold sgV at HW ⊢
    simp only at HBX HSA hg1 HM1 HB2 HKEY HH HU HRC HSA2 HDD HW ⊢
    obtain ⟨s0, s1, s2, s3, s4, s5, s6, s7, s8⟩ := HSA2.out
    obtain ⟨r1, r2⟩ := HRC.out
    simp only at s0 s1 s2 s3 s4 s5 s6 s7 s8
    go_enter Tryd.func41, Tryd.ntmps41
    go_wp2_with (at_lookup; refine wpList_lookup_rd _ rfl _ _ rfl bm n D rfl HM1.out _ _ rfl HKEY.out _ _ HU.out HH.out ?_)
    refine (HW.out _ HDD.out).mono ?_
    rintro e w2 ⟨hb2, hcase⟩
    have HGM := Hid.mk (GM.below HMB.out (bl2 HB2.out hb2))
    have HI2 := Hid.mk (HI.out.kept (bl2 HB2.out hb2))
    have HD2 := Hid.mk (isBytes_below HDD.out hb2)
    rcases hcase with ⟨hne, rfl⟩ | ⟨hz, a', c, rfl, hB'⟩
    · have HNE := Hid.mk hne
      have hne' : (RE != 0) = true := by simpa using hne
      clear hne hb2
      go_wp2_with fail
      go_ret2
      refine ⟨HGM, .inr ?_⟩
      rw [HP.out, if_neg HNE.out]
      exact ⟨_, _, rfl, Hid.mk ⟨rfl, HD2.out, HI2.out⟩⟩
    · have HZ := Hid.mk hz
      have HB' := Hid.mk hB'
      clear hz hb2 hB'
      go_wp2_with fail
      go_ret2
      refine ⟨HGM, .inr ?_⟩
      rw [HP.out, if_pos HZ.out]
      exact ⟨_, _, rfl, Hid.mk ⟨rfl, HB'.out, HI2.out⟩⟩
theorem mr_res (tmps : Array Value) (w : World) (g : Nat) (c0 c1 c2 c3 c4 c5 y : Value) (hp : tmps.getD 6 undef = .pointer (some ⟨g, 0, none⟩)) (hy : tmps.getD 7 undef = y) (h : Six w g c0 c1 c2 c3 c4 c5) :
    (results Tryd.f18 tmps).run Tryd.prog w = .ok (.tuple #[.agg #[c0, c1, c2, c3, c4, c5], y]) w := by
  have hl := run_loadVar_row (P := Tryd.prog) w g 25 25 #[c0, c1, c2, c3, c4, c5] (0, 0) _ h Tryd.underlying25 rfl (by rw [fr_i]; rfl)
  have hp' : tmps[6]?.getD undef = .pointer (some ⟨g, 0, none⟩) := by simpa using hp
  have hy' : tmps[7]?.getD undef = y := by simpa using hy
  simp [results, hp', hy', asAddr, hl]
def repE (fr to : Msg) (id : Int) (lo fa re : Bool) (sz : Int) (n : Nat) : Int := if chkM to ≠ 0 then chkM to else readE fr id lo fa re sz n
def rpW (w : World) (v t : MsV) (id : Int) (lo fa re : Bool) (sz : Int) (a : Option Addr) (len cap : Nat) : World := (((w.alloc (msC v)).alloc (msC t)).alloc (frameC id lo fa re sz a len cap)).alloc (.cells #[.int .i64 0, .bool false, .bool false, .bool false, .int .i64 0, .slice none 0 0] 25)
theorem rp_B (w : World) (v t : MsV) (id : Int) (lo fa re : Bool) (sz : Int) (a : Option Addr) (len cap : Nat) : Below w.heap.size w (rpW w v t id lo fa re sz a len cap) := ((((Below.refl _ _).alloc (Nat.le_refl _) _).alloc (by simp) _).alloc (by simp; omega) _).alloc (by simp; omega) _
theorem rp_v (w : World) (v t : MsV) (id : Int) (lo fa re : Bool) (sz : Int) (a : Option Addr) (len cap : Nat) : MsAt (rpW w v t id lo fa re sz a len cap) w.heap.size v := (((MsAt.box w v).kept (awB1 _ _)).kept (awB1 _ _)).kept (awB1 _ _)
theorem rp_t (w : World) (v t : MsV) (id : Int) (lo fa re : Bool) (sz : Int) (a : Option Addr) (len cap : Nat) : MsAt (rpW w v t id lo fa re sz a len cap) (w.heap.size + 1) t := by
  have := MsAt.box (w.alloc (msC v)) t
  rw [show (w.alloc (msC v)).heap.size = w.heap.size + 1 by simp] at this
  exact (this.kept (awB1 _ _)).kept (awB1 _ _)
theorem rp_f (w : World) (v t : MsV) (id : Int) (lo fa re : Bool) (sz : Int) (a : Option Addr) (len cap : Nat) : FrAt (rpW w v t id lo fa re sz a len cap) (w.heap.size + 2) id lo fa re sz a len cap := by
  have := FrAt.box ((w.alloc (msC v)).alloc (msC t)) id lo fa re sz a len cap
  rw [show ((w.alloc (msC v)).alloc (msC t)).heap.size = w.heap.size + 2 by simp] at this
  exact this.kept (awB1 _ _)
theorem rp_s (w : World) (v t : MsV) (id : Int) (lo fa re : Bool) (sz : Int) (a : Option Addr) (len cap : Nat) : Six (rpW w v t id lo fa re sz a len cap) (w.heap.size + 3) (.int .i64 0) (.bool false) (.bool false) (.bool false) (.int .i64 0) (.slice none 0 0) := by
  have := heap_alloc_new (((w.alloc (msC v)).alloc (msC t)).alloc (frameC id lo fa re sz a len cap)) (.cells #[.int .i64 0, .bool false, .bool false, .bool false, .int .i64 0, .slice none 0 0] 25)
  rw [show (((w.alloc (msC v)).alloc (msC t)).alloc (frameC id lo fa re sz a len cap)).heap.size = w.heap.size + 3 by simp] at this
  exact this
set_option maxHeartbeats 16000000 in
set_option maxRecDepth 100000 in
theorem mrepack_bad (v t : MsV) (id : Int) (lo fa re : Bool) (sz : Int) (a : Option Addr) (len cap : Nat) (n8 : Nat) (d : List UInt8) (w : World) (hM : MsIn w v) (hT : MsIn w t) (hS : SizesAt w) (hl : len ≤ maxLen) (hE : repE v.m t.m id lo fa re sz len ≠ 0) :
    Calls Tryd.prog 18 #[msV v, msV t, frameV id lo fa re sz a len cap] w (WriteP (repE v.m t.m id lo fa re sz len) t.m.id t.m.lo n8 d w) := by
  have HB0 := Hid.mk (rp_B w v t id lo fa re sz a len cap)
  have HA0 := Hid.mk (rp_v w v t id lo fa re sz a len cap)
  have HT0 := Hid.mk (rp_t w v t id lo fa re sz a len cap)
  have HF0 := Hid.mk (rp_f w v t id lo fa re sz a len cap)
  have HS0 := Hid.mk (rp_s w v t id lo fa re sz a len cap)
  have HC := Hid.mk (mcheck_any t _ (hT.kept HB0.out) (hS.kept HB0.out))
  have HRB := Hid.mk (fun W (h : Below w.heap.size w W) (hne : readE v.m id lo fa re sz len ≠ 0) => mread_bad v id lo fa re sz a len cap W (hM.kept h) (hS.kept h) hl hne)
  have HR : Hid (repE v.m t.m id lo fa re sz len = if chkM t.m ≠ 0 then chkM t.m else readE v.m id lo fa re sz len) := Hid.mk rfl
  generalize repE v.m t.m id lo fa re sz len = WE at *
  generalize readE v.m id lo fa re sz len = RE at *
  generalize chkM t.m = E at *
  obtain ⟨⟨mid, mlo, mnm, size, mch, sigs⟩, ma, mn, mcap⟩ := v
  obtain ⟨⟨tid, tlo, tnm, tsize, tch, tsigs⟩, ta, tn, tcap⟩ := t
  unfold rpW msC frameC at HB0 HA0 HT0 HF0 HS0 HC
  unfold msV at HC HRB ⊢
  unfold frameV at HRB ⊢
  simp only at HB0 HA0 HT0 HF0 HS0 HC HRB ⊢
  have HE := Hid.mk hE
  clear hM hT hS hl hE
  obtain ⟨t0, t1, t2, t3, t4, t5⟩ := HT0.out
  simp only at t0 t1 t2 t3 t4 t5
  by_cases h0 : E = 0
  case neg =>
    have hne : (E != 0) = true := by simpa using h0
    have HV : Hid (WE = E) := Hid.mk (by rw [HR.out, if_pos h0])
    clear h0
    go_enter Tryd.func18, Tryd.ntmps18
    go_wp2_with fail
    refine HC.out.mono ?_
    rintro e w1 ⟨rfl, hb1⟩
    have HB1 := Hid.mk (bl2 HB0.out hb1)
    have HS1 := Hid.mk (HS0.out.kept hb1)
    have HA1 := Hid.mk (HA0.out.kept hb1)
    have HT1 := Hid.mk (HT0.out.kept hb1)
    have HF1 := Hid.mk (HF0.out.kept hb1)
    obtain ⟨m0, m1, m2, m3, m4, m5⟩ := HA1.out
    obtain ⟨c0, c1, c2, c3, c4, c5⟩ := HF1.out
    simp only at m0 m1 m2 m3 m4 m5
    clear hb1 HC
    obtain ⟨⟨z0, z1, z2, z3, z4, z5⟩, y0, y1, y2, y3, y4, y5⟩ := HS1.out.cells
    obtain ⟨⟨p1, q1⟩, ⟨p2, q2⟩, ⟨p3, q3⟩, ⟨p4, q4⟩, ⟨p5, q5⟩, hSX⟩ := HS1.out.store (.int .i64 0) (.bool false) (.bool false) (.bool false) (.int .i64 0) (.slice none 0 0)
    have HSX := Hid.mk hSX
    clear hSX
    go_wp2_with fail
    refine bodyPost_ret (mr_res _ _ (w.heap.size + 3) _ _ _ _ _ _ _ rfl rfl HSX.out) rfl ?_
    refine ⟨six_B HB1.out (by omega) _ _ _ _ _ _, .inl ?_⟩
    exact ⟨HE.out, by rw [HV.out]; rfl⟩
  case pos =>
  subst h0
  have HV : Hid (WE = RE) := Hid.mk (by rw [HR.out, if_neg (by simp)])
  have hne0 : RE ≠ 0 := by rw [← HV.out]; exact HE.out
  have hne : (RE != 0) = true := by simpa using hne0
  have HNE := Hid.mk hne0
  clear hne0
  go_enter Tryd.func18, Tryd.ntmps18
  go_wp2_with fail
  refine HC.out.mono ?_
  rintro e w1 ⟨rfl, hb1⟩
  have HB1 := Hid.mk (bl2 HB0.out hb1)
  have HS1 := Hid.mk (HS0.out.kept hb1)
  have HA1 := Hid.mk (HA0.out.kept hb1)
  have HT1 := Hid.mk (HT0.out.kept hb1)
  have HF1 := Hid.mk (HF0.out.kept hb1)
  obtain ⟨m0, m1, m2, m3, m4, m5⟩ := HA1.out
  obtain ⟨c0, c1, c2, c3, c4, c5⟩ := HF1.out
  simp only at m0 m1 m2 m3 m4 m5
  clear hb1 HC
  go_wp2_with fail
  refine (HRB.out _ HB1.out HNE.out).mono ?_
  rintro e w2 ⟨rfl, hb2⟩
  have HB2 := Hid.mk (bl2 HB1.out hb2)
  have HS2 := Hid.mk (HS1.out.kept hb2)
  clear hb2
  obtain ⟨⟨z0, z1, z2, z3, z4, z5⟩, y0, y1, y2, y3, y4, y5⟩ := HS2.out.cells
  obtain ⟨⟨p1, q1⟩, ⟨p2, q2⟩, ⟨p3, q3⟩, ⟨p4, q4⟩, ⟨p5, q5⟩, hSX⟩ := HS2.out.store (.int .i64 0) (.bool false) (.bool false) (.bool false) (.int .i64 0) (.slice none 0 0)
  have HSX := Hid.mk hSX
  clear hSX
  go_wp2_with fail
  refine bodyPost_ret (mr_res _ _ (w.heap.size + 3) _ _ _ _ _ _ _ rfl rfl HSX.out) rfl ?_
  refine ⟨six_B HB2.out (by omega) _ _ _ _ _ _, .inl ?_⟩
  exact ⟨HE.out, by rw [HV.out]; rfl⟩
set_option maxHeartbeats 16000000 in
set_option maxRecDepth 100000 in
theorem mrepack_ok (v t : MsV) (id : Int) (lo fa re : Bool) (sz : Int) (a : Option Addr) (len cap : Nat) (dt : List UInt8) (n8 : Nat) (w : World) (hM : MsIn w v) (hT : MsIn w t) (hS : SizesAt w) (hD : IsBytes w a len cap dt) (hE : chkM t.m = 0) (hR : readE v.m id lo fa re sz len = 0) (hn8 : t.m.size = n8) :
    Calls Tryd.prog 18 #[msV v, msV t, frameV id lo fa re sz a len cap] w (WriteP 0 t.m.id t.m.lo n8 (fillE (putP (readsD v.m dt)) t.m).2 w) := by
  have hO := chkM_ok hE
  have hOv := (readE_ok hR).1
  have HB0 := Hid.mk (rp_B w v t id lo fa re sz a len cap)
  have HA0 := Hid.mk (rp_v w v t id lo fa re sz a len cap)
  have HT0 := Hid.mk (rp_t w v t id lo fa re sz a len cap)
  have HF0 := Hid.mk (rp_f w v t id lo fa re sz a len cap)
  have HS0 := Hid.mk (rp_s w v t id lo fa re sz a len cap)
  have hC := mcheck_any t _ (hT.kept HB0.out) (hS.kept HB0.out)
  rw [hE] at hC
  have HC := Hid.mk hC
  have HRB := Hid.mk (fun W (h : Below w.heap.size w W) => mread_ok v id lo fa re sz a len cap dt W (hM.kept h) (hS.kept h) (isBytes_below hD h) hR)
  have hsm : ∀ r ∈ readsD v.m dt, r.nm.size ≤ maxLen := by
    intro r hr
    unfold readsD at hr
    obtain ⟨s, hs, rfl⟩ := List.mem_map.1 hr
    have hs' := (List.mem_filter.1 hs).1
    obtain ⟨i, hi, rfl⟩ := List.getElem_of_mem hs'
    have := hOv.sig hi
    unfold Msg.at at this
    rw [getD_at hi] at this
    exact nm_small this
  have HNT := Hid.mk (reads_apart hOv dt)
  have HBN := Hid.mk (fun W a c (h : IsRds W a (readsD v.m dt).length c (readsD v.m dt)) => byName_any a _ c (readsD v.m dt) W h hsm)
  have HFL := Hid.mk (fun l g bm W (hb : Below w.heap.size w W) (hI : WrI l g bm W []) => fill_any 41 #[.pointer (some ⟨g, 0, none⟩)] enter_putP (putP l) (fun W _ => WrI l g bm W []) bm t n8 W (hT.kept hb) hO hn8
    (fun W used s a c d hI hs hnu hD => putP_any l s g bm a n8 c d W hI (hT.wf s hs) (by
      obtain ⟨i, hi, rfl⟩ := List.getElem_of_mem hs
      have := hO.sig hi
      unfold Msg.at at this
      rw [getD_at hi] at this
      exact nm_small this) hD (by
      obtain ⟨i, hi, rfl⟩ := List.getElem_of_mem hs
      have := hO.sig hi
      unfold Msg.at at this
      rw [getD_at hi, hn8] at this
      exact this))
    (fun W W' used h hb => h.kept hb) (fun W used h => by
      obtain ⟨_, k, D, h1, _⟩ := h
      exact h1.map) hI)
  have HFZ := Hid.mk (fillP_zero (readsD v.m dt) t.m)
  have HFL2 := Hid.mk (fun g bm W hb hI => HFL.out (readsD v.m dt) g bm W hb hI)
  clear HFL hsm hO hOv hE hR hC
  generalize fillE (putP (readsD v.m dt)) t.m = FE at *
  generalize usedL (putP (readsD v.m dt)) t.m = UL at *
  generalize readsD v.m dt = RL at *
  obtain ⟨⟨mid, mlo, mnm, size, mch, sigs⟩, ma, mn, mcap⟩ := v
  obtain ⟨⟨tid, tlo, tnm, tsize, tch, tsigs⟩, ta, tn, tcap⟩ := t
  unfold rpW msC frameC at HB0 HA0 HT0 HF0 HS0 HC
  unfold msV at HC HRB HFL2 ⊢
  unfold frameV at HRB ⊢
  simp only at HB0 HA0 HT0 HF0 HS0 HC HRB HFL2 hn8 ⊢
  subst hn8
  clear hM hT hS hD
  obtain ⟨t0, t1, t2, t3, t4, t5⟩ := HT0.out
  simp only at t0 t1 t2 t3 t4 t5
  go_enter Tryd.func18, Tryd.ntmps18
  go_wp2_with fail
  refine HC.out.mono ?_
  rintro e w1 ⟨rfl, hb1⟩
  have HB1 := Hid.mk (bl2 HB0.out hb1)
  have HS1 := Hid.mk (HS0.out.kept hb1)
  have HA1 := Hid.mk (HA0.out.kept hb1)
  have HT1 := Hid.mk (HT0.out.kept hb1)
  have HF1 := Hid.mk (HF0.out.kept hb1)
  obtain ⟨m0, m1, m2, m3, m4, m5⟩ := HA1.out
  obtain ⟨c0, c1, c2, c3, c4, c5⟩ := HF1.out
  simp only at m0 m1 m2 m3 m4 m5
  clear hb1 HC
  go_wp2_with fail
  refine (HRB.out _ HB1.out).mono ?_
  rintro e w2 ⟨u, rfl, hown, hb2⟩
  obtain ⟨ua, uc, rfl, hR2⟩ := rds_own hown
  have HB2 := Hid.mk (bl2 HB1.out hb2)
  have HS2 := Hid.mk (HS1.out.kept hb2)
  have HT2 := Hid.mk (HT1.out.kept hb2)
  have HBNW := Hid.mk (HBN.out w2 ua uc hR2)
  obtain ⟨nR, hnR⟩ : ∃ nR, nR = RL.length := ⟨_, rfl⟩
  rw [← hnR] at HBNW ⊢
  clear hb2 hown hR2 HBN HRB HS1 HT1 HA1 HF1 hnR
  go_wp2_with fail
  refine HBNW.out.mono ?_
  rintro e w3 ⟨rfl, ⟨D, hMap, hTold⟩, hb3⟩
  have HB3 := Hid.mk (bl2 HB2.out hb3)
  have HS3 := Hid.mk (HS2.out.kept hb3)
  have HT3 := Hid.mk (HT2.out.kept hb3)
  have HA3 := Hid.mk (awB1 w3 (.cells #[.map (some w2.heap.size)] 66))
  have HB4 := Hid.mk (bl2 HB3.out HA3.out)
  have HS4 := Hid.mk (HS3.out.kept HA3.out)
  have HT4 := Hid.mk (HT3.out.kept HA3.out)
  have hg : (w3.alloc (.cells #[.map (some w2.heap.size)] 66)).cell? ⟨w3.heap.size, 0, none⟩ = some (.map (some w2.heap.size)) := cell_of_row _ _ 0 _ _ _ (heap_alloc_new w3 _)
  have HFI := Hid.mk (HFL2.out w3.heap.size w2.heap.size _ HB4.out ⟨hg, nR, D, hMap.kept HA3.out, hTold.left HNT.out⟩)
  have HBM : Hid (w.heap.size ≤ w2.heap.size) := Hid.mk HB2.out.size
  obtain ⟨t0, t1, t2, t3, t4, t5⟩ := HT4.out
  simp only at t0 t1 t2 t3 t4 t5
  clear hMap hTold hb3 hg HFL2
  go_wp2_with fail
  refine HFI.out.mono ?_
  rintro e w5 ⟨hG5, hcase⟩
  have HB5 := Hid.mk (HB4.out.grown hG5.grown HB4.out.size (fun j hj => by cases hj; exact HBM.out))
  have HS5 := Hid.mk (HS4.out.keptG hG5)
  obtain ⟨t0, t1, t2, t3, t4, t5⟩ := HT4.out.keptC hG5.ck
  simp only at t0 t1 t2 t3 t4 t5
  rcases hcase with ⟨hne, _⟩ | ⟨_, a', c', rfl, hB', _⟩
  · exact absurd HFZ.out hne
  have HB' := Hid.mk hB'
  clear hB' hG5 HFI
  obtain ⟨⟨z0, z1, z2, z3, z4, z5⟩, y0, y1, y2, y3, y4, y5⟩ := HS5.out.cells
  obtain ⟨⟨p1, q1⟩, ⟨p2, q2⟩, ⟨p3, q3⟩, ⟨p4, q4⟩, ⟨p5, q5⟩, hSX⟩ := HS5.out.store (.int .i64 tid) (.bool tlo) (.bool false) (.bool false) (.int .i64 0) (.slice a' n8 c')
  have HSX := Hid.mk hSX
  have HBX := Hid.mk (bytes_six HS5.out HB'.out (.int .i64 tid) (.bool tlo) (.bool false) (.bool false) (.int .i64 0) (.slice a' n8 c'))
  clear hSX
  go_wp2_with fail
  refine bodyPost_ret (mr_res _ _ (w.heap.size + 3) _ _ _ _ _ _ _ rfl rfl HSX.out) rfl ?_
  exact ⟨six_B HB5.out (by omega) _ _ _ _ _ _, .inr ⟨rfl, a', c', rfl, HBX.out⟩⟩
end Bw
end Go.Proofs.YtgjkioknnjbjfaaDoor
