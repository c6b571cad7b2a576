/- What the document's IsThere and Readings answer, errors too. -/
import Derived.Test.YtjgliinpaadbnaaGreatDoorMgReadA
import Derived.Test.YtjgliinpaadbnaaGreatDoorRsRP
import Derived.Test.YtjgliinpaadbnaaGreatDoorBgR
import Derived.Lib.QuietBelow
import Derived.BigQuiet
import Derived.Deep.RegionHeld3
import Derived.Deep.AppendLies
import Derived.Test.YtjgliinpaadbnaaGreatDoorRmCheck
import Derived.Test.YtjgliinpaadbnaaGreatDoorMgMeant
namespace Go.Proofs.YtjgliinpaadbnaaGreatDoor
open Go.ChangeShapes Go.WideShapes Go.ChangeAt Go.RowKit Go.Sort
namespace Bw
open Sm
/-- RawOf of a right signal -/
theorem rawD_any (s : Sig) (a : Option Addr) (len cap : Nat) (l : List UInt8) (w : World) (hD : IsBytes w a len cap l) {n : Nat} (hE : chkS s n = 0) (hn : n ≤ len) (hl : len ≤ 64) :
    Calls Tryz.prog 46 #[sgV s, .slice a len cap] w fun e w' => e = .returned (.int .i64 (rawD s l)) ∧ Below w.heap.size w w' := by
  obtain ⟨st, sz, hR⟩ := right_of (chk_len hE hn hl)
  have := rawOf_any s st sz a len cap l w hD hR
  rw [← rawD_is hR] at this
  exact this
theorem OkM.key {m : Msg} (h : OkM m) {i : Nat} (hi : i < m.sigs.length) (hk : (m.at i).ky ≠ -1) : 0 ≤ m.ch := by
  by_cases hc : 0 ≤ m.ch
  · exact hc
  · exfalso
    have h1 := h.well
    unfold wellB mostI at h1
    rw [if_neg (by omega), Bool.and_eq_true] at h1
    have h2 : (m.sigs.any fun s => decide (-1 < s.ky)) = false := by simpa using h1.2
    rw [List.any_eq_false] at h2
    have h3 := h2 _ (m.mem hi)
    have h4 : -1 ≤ (m.at i).ky := by
      obtain ⟨_, _, h5, _⟩ := chk_size (h.sig hi)
      unfold numB at h5
      simp only [Bool.and_eq_true] at h5
      exact (inB_iff.1 h5.2.2.2.2.2).1
    simp at h3
    omega
theorem it_W0 (w : World) (v : MsV) (s : Sig) : Below w.heap.size w ((w.alloc (msC v)).alloc (sgC s)) := ((Below.refl _ _).alloc (Nat.le_refl _) _).alloc (by simp) _
theorem it_M0 (w : World) (v : MsV) (s : Sig) : MsAt ((w.alloc (msC v)).alloc (sgC s)) w.heap.size v := (MsAt.box w v).kept (awB1 _ _)
theorem it_S0 (w : World) (v : MsV) (s : Sig) : SgAt ((w.alloc (msC v)).alloc (sgC s)) (w.heap.size + 1) s := by
  have := SgAt.box (w.alloc (msC v)) s
  rw [show (w.alloc (msC v)).heap.size = w.heap.size + 1 by simp] at this
  exact this
set_option maxHeartbeats 8000000 in
set_option maxRecDepth 100000 in
theorem isThereD_always (v : MsV) (s : Sig) (d : Value) (w : World) (hk : s.ky = -1) :
    Calls Tryz.prog 19 #[msV v, sgV s, d] w fun e w' => e = .returned (.bool true) ∧ Below w.heap.size w w' := by
  have HB0 := Hid.mk (it_W0 w v s)
  have hs := (it_S0 w v s).c8
  rw [hk] at hs
  have hS := it_S0 w v s
  have hM := it_M0 w v s
  obtain ⟨nm, st, sz, bk, sg, mu, di, ad, ky⟩ := s
  obtain ⟨⟨mid, mlo, mnm, size, mch, sigs⟩, ma, mn, mcap⟩ := v
  simp only at hk
  subst hk
  obtain ⟨W0, hW0⟩ : ∃ W0, W0 = (w.alloc (msC ⟨⟨mid, mlo, mnm, size, mch, sigs⟩, ma, mn, mcap⟩)).alloc (sgC ⟨nm, st, sz, bk, sg, mu, di, ad, -1⟩) := ⟨_, rfl⟩
  rw [← hW0] at hs HB0
  unfold msC sgC at hW0
  unfold msV sgV
  simp only at hW0 hs ⊢
  have HW := Hid.mk hW0
  clear hW0 hS hM
  go_enter Tryz.func19, Tryz.ntmps19
  go_wp2_with fail
  rw [← HW.out]
  go_quiet (fail)
  go_wp2_with fail
  go_ret
  exact ⟨rfl, bl2 HB0.out ⟨rfl, rfl, rfl, Nat.le_refl _, fun _ _ => rfl⟩⟩
set_option maxHeartbeats 8000000 in
set_option maxRecDepth 100000 in
theorem isThereD_some (v : MsV) (s : Sig) (a : Option Addr) (len cap : Nat) (l : List UInt8) (w : World) (hM : MsIn w v) (hD : IsBytes w a len cap l) {n : Nat} (h0 : 0 ≤ v.m.ch) (h1 : v.m.ch < (v.m.sigs.length : Int)) (hC : chkS (v.m.at v.m.ch.toNat) n = 0) (hn : n ≤ len) (hl : len ≤ 64) (hk : s.ky ≠ -1) :
    Calls Tryz.prog 19 #[msV v, sgV s, .slice a len cap] w fun e w' => e = .returned (.bool (s.ky == rawD (v.m.at v.m.ch.toNat) l)) ∧ Below w.heap.size w w' := by
  have HB0 := Hid.mk (it_W0 w v s)
  have hs8 := (it_S0 w v s).c8
  have hm4 := (it_M0 w v s).c4
  have hm5 := (it_M0 w v s).c5
  have hlen : v.m.sigs.length = v.n := hM.row.len
  obtain ⟨c, hc⟩ : ∃ c : Nat, v.m.ch = c := ⟨v.m.ch.toNat, by omega⟩
  have hcn : c < v.n := by omega
  rw [hc, Int.toNat_natCast] at hC
  rw [hc] at hm4
  rw [hc, Int.toNat_natCast]
  obtain ⟨x, hx⟩ := hM.row.some hcn
  have hr := hM.row
  rw [hx] at hr hm5
  have hS := (hr.kept HB0.out).at hcn
  have e9 : v.m.sigs.getD c noS = v.m.at c := rfl
  rw [e9] at hS
  have HRD := Hid.mk (fun W (hb : Below w.heap.size w W) => rawD_any (v.m.at c) a len cap l W (isBytes_below hD hb) hC hn hl)
  have hkb : (s.ky == -1) = false := by simpa using hk
  have hcn' : (c : Int) < (v.n : Int) := by omega
  have hcn0 : (0 : Int) ≤ (c : Int) := by omega
  generalize rawD (v.m.at c) l = R at *
  generalize v.m.at c = sc at *
  obtain ⟨nm', st', sz', bk', sg', mu', di', ad', ky'⟩ := sc
  obtain ⟨nm, st, sz, bk, sg, mu, di, ad, ky⟩ := s
  obtain ⟨⟨mid, mlo, mnm, size, mch, sigs⟩, ma, mn, mcap⟩ := v
  simp only at hc hx hcn hlen hkb hcn'
  subst hc
  subst hx
  obtain ⟨s0, s1, s2, s3, s4, s5, s6, s7, s8⟩ := hS
  simp only at s0 s1 s2 s3 s4 s5 s6 s7 s8 hs8 hm4 hm5
  obtain ⟨W0, hW0⟩ : ∃ W0, W0 = (w.alloc (msC ⟨⟨mid, mlo, mnm, size, (c : Int), sigs⟩, some x, mn, mcap⟩)).alloc (sgC ⟨nm, st, sz, bk, sg, mu, di, ad, ky⟩) := ⟨_, rfl⟩
  rw [← hW0] at s0 s1 s2 s3 s4 s5 s6 s7 s8 hs8 hm4 hm5 HB0
  unfold msC sgC at hW0
  unfold sgV at HRD
  unfold msV sgV
  simp only at hW0 HRD ⊢
  have HW := Hid.mk hW0
  clear hW0 hM h0 h1 hlen hD hC hn hl e9 hr hk
  go_enter Tryz.func19, Tryz.ntmps19
  go_wp2_with fail
  rw [← HW.out]
  have r0 := fun d os => cell_kept (below_regrown W0 d os) s0
  have r1 := fun d os => cell_kept (below_regrown W0 d os) s1
  have r2 := fun d os => cell_kept (below_regrown W0 d os) s2
  have r3 := fun d os => cell_kept (below_regrown W0 d os) s3
  have r4 := fun d os => cell_kept (below_regrown W0 d os) s4
  have r5 := fun d os => cell_kept (below_regrown W0 d os) s5
  have r6 := fun d os => cell_kept (below_regrown W0 d os) s6
  have r7 := fun d os => cell_kept (below_regrown W0 d os) s7
  have r8 := fun d os => cell_kept (below_regrown W0 d os) s8
  have q8 := fun d os => cell_kept (below_regrown W0 d os) hs8
  have p4 := fun d os => cell_kept (below_regrown W0 d os) hm4
  have p5 := fun d os => cell_kept (below_regrown W0 d os) hm5
  refine wp_region_quiet_below (by kernel_rfl) (by kernel_rfl) ?_
  repeat (go_big_quiet_step ((go_at_call 46; exact Calls.regrown_of (HRD.out _ (bl2 HB0.out (below_regrown W0 _ _))))))
  refine wpQuiet_nil ?_
  intro _ hw'
  obtain ⟨⟨dq, osq⟩, hw''⟩ := hw'
  have hbq := below_regrown W0 dq osq
  rw [hw'']
  generalize grow (redrawn W0 dq) osq = W2 at *
  have HB2 := Hid.mk (bl2 HB0.out hbq)
  clear hw'' hbq r0 r1 r2 r3 r4 r5 r6 r7 r8 q8 p4 p5 s0 s1 s2 s3 s4 s5 s6 s7 s8 hs8 hm4 hm5
  go_wp2_with fail
  go_ret
  exact ⟨ret_b (by first | rfl | (rw [Bool.beq_comm]) | simp [eq_comm]), HB2.out⟩
/-- IsThere of a signal of a right message -/
theorem isThereD_any (v : MsV) (i : Nat) (a : Option Addr) (len cap : Nat) (l : List UInt8) (w : World) (hM : MsIn w v) (hD : IsBytes w a len cap l) {n : Nat} (hO : OkM v.m) (hi : i < v.m.sigs.length) (hn : v.m.size = n) (hnl : n ≤ len) (hl : len ≤ 64) :
    Calls Tryz.prog 19 #[msV v, sgV (v.m.at i), .slice a len cap] w fun e w' => e = .returned (.bool (thB (choD v.m l) (v.m.at i))) ∧ Below w.heap.size w w' := by
  by_cases hk : (v.m.at i).ky = -1
  · have e : thB (choD v.m l) (v.m.at i) = true := by unfold thB; simp [hk]
    rw [e]
    exact isThereD_always v _ _ w hk
  · have h0 := hO.key hi hk
    have h1 := hO.ch1
    have e : thB (choD v.m l) (v.m.at i) = ((v.m.at i).ky == rawD (v.m.at v.m.ch.toNat) l) := by
      unfold thB choD
      rw [if_pos h0, show ((v.m.at i).ky == -1) = false by simpa using hk]
      rfl
    rw [e]
    exact isThereD_some v _ a len cap l w hM hD h0 h1 (by rw [← hn]; exact hO.sig (by omega)) hnl hl hk
theorem rd_mean {s : Sig} {st sz n : Nat} (hR : Rt s st sz n) (l : List UInt8) : -1099511627776 ≤ rawD s l ∧ rawD s l ≤ 1099511627776 := by
  rw [rawD_is hR]
  have h1 : lowS s.sg sz ≤ rawR s st sz l ∧ rawR s st sz l ≤ highS s.sg sz := by
    unfold rawR
    refine rawS_span hR.s1 (by omega) ?_
    have h := uN_lt s.bk st sz l
    have e : ((2 ^ sz : Nat) : Int) = 2 ^ sz := by simp
    rw [← e]
    omega
  have h2 := pow_le40 (n := sz) hR.s40
  have h3 := pow_le40 (n := sz - 1) (by have := hR.s40; omega)
  have h4 : (0 : Int) < 2 ^ (sz - 1) := Int.pow_pos (by decide)
  unfold lowS highS at h1
  split at h1 <;> omega
/-- MeaningOf of a right signal -/
theorem meanD_any (s : Sig) (l : List UInt8) (w : World) {n : Nat} (hE : chkS s n = 0) :
    Calls Tryz.prog 45 #[sgV s, .int .i64 (rawD s l)] w fun e w' => e = .returned (rdV (rdD s l).nm (rdD s l).num (rdD s l).den) ∧ Below w.heap.size w w' := by
  obtain ⟨st, sz, hR⟩ := right_of hE
  have h := rd_mean hR l
  exact meaning_any s st sz n (rawD s l) w hR h.1 h.2
theorem ten_kept {w w' : World} {g f : Nat} {s : Sig} {u : Value} (hs : SgAt w g s) (hf : w.cell? ⟨f, 5, none⟩ = some u) (hb : Below w.heap.size w w') :
    w'.cell? ⟨g, 0, none⟩ = some (.string s.nm) ∧ w'.cell? ⟨g, 1, none⟩ = some (.int .i64 s.st) ∧ w'.cell? ⟨g, 2, none⟩ = some (.int .i64 s.sz) ∧ w'.cell? ⟨g, 3, none⟩ = some (.bool s.bk) ∧ w'.cell? ⟨g, 4, none⟩ = some (.bool s.sg) ∧ w'.cell? ⟨g, 5, none⟩ = some (.int .i64 s.mu) ∧ w'.cell? ⟨g, 6, none⟩ = some (.int .i64 s.di) ∧ w'.cell? ⟨g, 7, none⟩ = some (.int .i64 s.ad) ∧ w'.cell? ⟨g, 8, none⟩ = some (.int .i64 s.ky) ∧ w'.cell? ⟨f, 5, none⟩ = some u := by
  have h := hs.kept hb
  exact ⟨h.c0, h.c1, h.c2, h.c3, h.c4, h.c5, h.c6, h.c7, h.c8, cell_kept hb hf⟩
theorem ten_far {w W w' : World} {g f : Nat} {s : Sig} {u : Value} {row : Option Nat} (hs : SgAt w g s) (hf : w.cell? ⟨f, 5, none⟩ = some u) (hb : Below w.heap.size w W) (hg : W.grownBy w' row) (hn : ∀ q, row = some q → q ≠ g ∧ q ≠ f) :
    w'.cell? ⟨g, 0, none⟩ = some (.string s.nm) ∧ w'.cell? ⟨g, 1, none⟩ = some (.int .i64 s.st) ∧ w'.cell? ⟨g, 2, none⟩ = some (.int .i64 s.sz) ∧ w'.cell? ⟨g, 3, none⟩ = some (.bool s.bk) ∧ w'.cell? ⟨g, 4, none⟩ = some (.bool s.sg) ∧ w'.cell? ⟨g, 5, none⟩ = some (.int .i64 s.mu) ∧ w'.cell? ⟨g, 6, none⟩ = some (.int .i64 s.di) ∧ w'.cell? ⟨g, 7, none⟩ = some (.int .i64 s.ad) ∧ w'.cell? ⟨g, 8, none⟩ = some (.int .i64 s.ky) ∧ w'.cell? ⟨f, 5, none⟩ = some u := by
  have h := hs.kept hb
  have h1 : some g ≠ row := fun e => (hn g e.symm).1 rfl
  have h2 : some f ≠ row := fun e => (hn f e.symm).2 rfl
  exact ⟨hg.cell h.c0 h1, hg.cell h.c1 h1, hg.cell h.c2 h1, hg.cell h.c3 h1, hg.cell h.c4 h1, hg.cell h.c5 h1, hg.cell h.c6 h1, hg.cell h.c7 h1, hg.cell h.c8 h1, hg.cell (cell_kept hb hf) h2⟩
theorem dwR (w : World) : Below w.heap.size w w.drew := ⟨rfl, rfl, rfl, Nat.le_refl _, fun _ _ => rfl⟩
set_option maxHeartbeats 16000000 in
set_option maxRecDepth 100000 in
theorem readings_ok (v : MsV) (id : Int) (lo fa re : Bool) (sz : Int) (a : Option Addr) (len cap : Nat) (dt : List UInt8) (w : World) (hM : MsIn w v) (hD : IsBytes w a len cap dt) (hE : readE v.m id lo fa re sz len = 0) :
    Calls Tryz.prog 15 #[msV v, frameV id lo fa re sz a len cap] w fun e w' => ∃ u, e = .returned (.tuple #[u, .int .i64 0]) ∧ w'.ownsRow w.heap.size 44 3 u (readsD v.m dt).length (rdsC (readsD v.m dt)) ∧ Below w.heap.size w w' := by
  obtain ⟨i0, hi, hz0, hz1, hz2⟩ := info_parts info_rd
  obtain ⟨hO, hFE, hid, hre, hsz⟩ := readE_ok hE
  have hl64 := frEn_len hFE
  obtain ⟨n8, hn8⟩ : ∃ n8 : Nat, v.m.size = n8 := ⟨v.m.size.toNat, by have := hO.size0; omega⟩
  have hn8l : n8 ≤ len := by omega
  have HBX := Hid.mk (rd_W0 w v id lo fa re sz a len cap)
  have HMA := Hid.mk (rd_W0m w v id lo fa re sz a len cap)
  have HFA := Hid.mk (rd_W0f w v id lo fa re sz a len cap)
  have hlen : v.m.sigs.length = v.n := hM.row.len
  have hn16 : v.n ≤ 16 := by have := hO.many; omega
  have HT := Hid.mk (fun i (hi : i < v.n) W (h : Below w.heap.size w W) => isThereD_any v i a len cap dt W (hM.kept h) (isBytes_below hD h) hO (by rw [hlen]; exact hi) hn8 hn8l hl64)
  have HRD := Hid.mk (fun i (hi : i < v.n) W (h : Below w.heap.size w W) => rawD_any (v.m.at i) a len cap dt W (isBytes_below hD h) (by rw [← hn8]; exact hO.sig (by rw [hlen]; exact hi)) hn8l hl64)
  have HMN := Hid.mk (fun i (hi : i < v.n) W => meanD_any (v.m.at i) dt W (n := n8) (by rw [← hn8]; exact hO.sig (by rw [hlen]; exact hi)))
  have HROW := Hid.mk hM.row
  have HGD : Hid (∀ i, v.m.at i = v.m.sigs.getD i noS) := Hid.mk (fun _ => rfl)
  have HYES := Hid.mk (fun k (hk : k < v.n) (h : thB (choD v.m dt) (v.m.at k) = true) => readsK_yes v.m dt (by rw [hlen]; exact hk) h)
  have HNO := Hid.mk (fun k (hk : k < v.n) (h : thB (choD v.m dt) (v.m.at k) = false) => readsK_no v.m dt (by rw [hlen]; exact hk) h)
  have HLEN := Hid.mk (readsK_len v.m dt)
  have hall := readsK_all v.m dt
  rw [hlen] at hall
  rw [← hall]
  have HZ := Hid.mk (readsK_zero v.m dt)
  have hsl : ¬ ((len : Int) < v.m.size) := by omega
  have hlb : (len : Int) ≤ 9223372036854775807 := by omega
  obtain ⟨hid1, hid2⟩ := hid
  clear hE hO hFE hsz hM hD hall
  generalize readsK v.m dt = RK at *
  generalize choD v.m dt = cho at *
  generalize hS : v.m.at = S at *
  clear hS
  obtain ⟨⟨mid, mlo, mnm, size, mch, sigs⟩, ma, mn, mcap⟩ := v
  simp only at hid1 hid2
  subst hid1
  subst hid2
  subst hre
  unfold msC frameC at HBX HMA HFA
  unfold msV at HT ⊢
  unfold frameV
  simp only at HBX HMA HFA HT HROW HGD HRD HMN hn16 hsl HYES HNO ⊢
  clear hlen hn8 hn8l hl64
  obtain ⟨c0, c1, c2, c3, c4, c5⟩ := HFA.out
  obtain ⟨m0, m1, m2, m3, m4, m5⟩ := HMA.out
  simp only at m0 m1 m2 m3 m4 m5
  go_enter Tryz.func15, Tryz.ntmps15
  go_wp2_with fail
  obtain ⟨w4, hw4⟩ : ∃ w4, w4 = (w.alloc (.cells #[.int .i64 id, .bool lo, .string mnm, .int .i64 size, .int .i64 mch, .slice ma mn mcap] 24)).alloc (.cells #[.int .i64 id, .bool lo, .bool fa, .bool false, .int .i64 sz, .slice a len cap] 28) := ⟨_, rfl⟩
  rw [← hw4] at HBX HMA HFA ⊢
  clear hw4 c0 c1 c2 c3 c4 c5 m0 m1 m2 m3 m4 m5
  go_loopw [6, 34] (fun u i wr => ∃ k : Nat, k ≤ mn ∧ i = .int .i64 k ∧ Hid (wr.ownsRow w4.heap.size 44 3 u (RK k).length (rdsC (RK k))) ∧ Hid (Below w4.heap.size w4 wr)) (fun _ i _ => mn - (intOf i).toNat)
  case atStart => exact ⟨0, Nat.zero_le _, rfl, Hid.mk (by rw [HZ.out]; exact World.ownsRow_nil _ _ _ _), Hid.mk (Below.refl _ _)⟩
  case round =>
    obtain ⟨k, hk, rfl, HOW, HB⟩ := hrel
    by_cases hlt : k < mn
    · have hlt' : (k : Int) < (mn : Int) := by omega
      obtain ⟨x, hx⟩ := HROW.out.some hlt
      cases hx
      have hSg := (HROW.out.kept (bl2 HBX.out HB.out)).at hlt
      rw [← HGD.out] at hSg
      have HBX1 := Hid.mk (sg_box wr (S k))
      have HSAT := Hid.mk (SgAt.box wr (S k))
      have HTk := Hid.mk (HT.out k hlt)
      have HRk := Hid.mk (HRD.out k hlt)
      have HMk := Hid.mk (HMN.out k hlt)
      have HYk := Hid.mk (HYES.out k hlt)
      have HNk := Hid.mk (HNO.out k hlt)
      have hlk := HLEN.out k
      have HF1 := Hid.mk ((HFA.out.kept HB.out).kept HBX1.out)
      have HM1 := Hid.mk ((HMA.out.kept HB.out).kept HBX1.out)
      generalize thB cho (S k) = TH at *
      generalize rdD (S k) dt = RR at *
      generalize rawD (S k) dt = RW at *
      generalize S k = sk at *
      obtain ⟨nm, st, sz', bk, sg, mu, di, ad, ky⟩ := sk
      obtain ⟨rnm, rnum, rden⟩ := RR
      unfold sgC at HBX1 HSAT HF1 HM1
      unfold sgV at HTk HRk HMk
      unfold rdV at HMk
      simp only at HBX1 HSAT HTk HRk HMk HYk HNk HF1 HM1
      obtain ⟨s0, s1, s2, s3, s4, s5, s6, s7, s8⟩ := hSg
      simp only at s0 s1 s2 s3 s4 s5 s6 s7 s8
      obtain ⟨c0, c1, c2, c3, c4, c5⟩ := HF1.out
      obtain ⟨m0, m1, m2, m3, m4, m5⟩ := HM1.out
      simp only at m0 m1 m2 m3 m4 m5
      cases TH with
      | false =>
        have HN := Hid.mk (HNk.out rfl)
        clear HYk HNk
        go_wp2_with fail
        refine (HTk.out _ (bl2 HBX.out (bl2 HB.out HBX1.out))).mono ?_
        rintro e w5 ⟨rfl, hb5⟩
        have HB5 := Hid.mk (bl2 HB.out (bl2 HBX1.out hb5))
        have HO5 := Hid.mk (ownsRow_below HOW.out (bl2 HBX1.out hb5))
        clear hb5
        go_wp2_with fail
        go_roundw
        case rel => exact ⟨k + 1, by omega, by go_num, by rw [HN.out]; exact HO5, HB5⟩
        case measure => simp [intOf]; omega
      | true =>
        have HN := Hid.mk (HYk.out rfl)
        clear HYk HNk
        go_wp2_with fail
        refine (HTk.out _ (bl2 HBX.out (bl2 HB.out HBX1.out))).mono ?_
        rintro e w5 ⟨rfl, hb5⟩
        have HB5 := Hid.mk (bl2 HB.out (bl2 HBX1.out hb5))
        have HO5 := Hid.mk (ownsRow_below HOW.out (bl2 HBX1.out hb5))
        have HS5 := Hid.mk (HSAT.out.kept hb5)
        have HC5 := Hid.mk (cell_kept hb5 c5)
        have hTEN := ten_kept HS5.out HC5.out (dwR w5)
        simp only at hTEN
        have HRW := Hid.mk (HRk.out w5.drew (bl2 HBX.out (bl2 HB5.out (dwR w5))))
        have hlk' : (RK k).length ≤ 16 := by omega
        clear hb5 s0 s1 s2 s3 s4 s5 s6 s7 s8 c0 c1 c2 c3 c4 c5 m0 m1 m2 m3 m4 m5
        have HLT1 : Hid (∀ q, u6.ownBlock = some q → q ≠ wr.heap.size ∧ q ≠ w.heap.size + 1) := Hid.mk (fun q hq => by
          have h1 := HOW.out.lt q hq
          have h2 := block_lt_of_cell HFA.out.c5
          have h3 : (⟨w.heap.size + 1, 5, none⟩ : Addr).block = w.heap.size + 1 := rfl
          omega)
        go_wp2_with fail
        go_region_held3 (fun w' => w'.cell? ⟨wr.heap.size, 0, none⟩ = some (.string nm) ∧ w'.cell? ⟨wr.heap.size, 1, none⟩ = some (.int .i64 st) ∧ w'.cell? ⟨wr.heap.size, 2, none⟩ = some (.int .i64 sz') ∧ w'.cell? ⟨wr.heap.size, 3, none⟩ = some (.bool bk) ∧ w'.cell? ⟨wr.heap.size, 4, none⟩ = some (.bool sg) ∧ w'.cell? ⟨wr.heap.size, 5, none⟩ = some (.int .i64 mu) ∧ w'.cell? ⟨wr.heap.size, 6, none⟩ = some (.int .i64 di) ∧ w'.cell? ⟨wr.heap.size, 7, none⟩ = some (.int .i64 ad) ∧ w'.cell? ⟨wr.heap.size, 8, none⟩ = some (.int .i64 ky) ∧ w'.cell? ⟨w.heap.size + 1, 5, none⟩ = some (.slice a len cap)) (first | exact hTEN | exact hT6 | exact hT7 | exact hT8 | exact hT9) (first
          | (go_at_call 46; with_reducible refine HRW.out.mono ?_; rintro e w6 ⟨rfl, hb6⟩
             have hb56 := bl2 (dwR w5) hb6
             have HB6 := Hid.mk (bl2 HB5.out hb56)
             have HO6 := Hid.mk (ownsRow_below HO5.out hb56)
             have HS6 := Hid.mk (HS5.out.kept hb56)
             have HC6 := Hid.mk (cell_kept hb56 HC5.out)
             have hT6 := ten_kept HS5.out HC5.out hb56
             have HMW := Hid.mk (HMk.out w6)
             simp only at hT6
             clear hb6 hb56)
          | (go_at_call 45; with_reducible refine HMW.out.mono ?_; rintro e w7 ⟨rfl, hb7⟩
             have HB7 := Hid.mk (bl2 HB6.out hb7)
             have HO7 := Hid.mk (ownsRow_below HO6.out hb7)
             have hT7 := ten_kept HS6.out HC6.out hb7
             have HS7 := Hid.mk (HS6.out.kept hb7)
             have HC7 := Hid.mk (cell_kept hb7 HC6.out)
             have hT8 := ten_kept HS7.out HC7.out (awB1 w7 (.cells #[.string rnm, .int .i64 rnum, .int .i64 rden] 44))
             simp only at hT7 hT8
             clear hb7)
          | (refine step_append_lies _ rfl (.tmp 43) (.tmp 50) 25 rfl w4.heap.size 44 i0 (.agg #[.string ⟨#[]⟩, .int .i64 0, .int .i64 0]) 3 32 Tryz.underlying25 hi hz0 hz1 hz2 rfl (by decide) _ _ _ rfl (HO7.out.alloc _) ⟨w7.heap.size, 0, none⟩ 1 1 [Value.string rnm, Value.int .i64 rnum, Value.int .i64 rden] rfl rfl (row3_atR _ _ rfl _ _ _ _) (by intro u hu; simp at hu; rcases hu with rfl | rfl | rfl <;> rfl) (by decide) (by unfold maxLen; omega) (by omega) (by have := HB7.out.size; simp; omega) _ rfl ?_
             intro g9 c9 w9 hown9 hgrow9 _ _
             have HO9 := Hid.mk hown9
             have HG9 := Hid.mk hgrow9
             have hT9 := ten_far HS7.out HC7.out (awB1 w7 _) hgrow9 HLT1.out
             simp only at hT9
             clear hown9 hgrow9))
        have hB9 : Below w4.heap.size w4 w9 := Below.grown (HB7.out.alloc HB7.out.size _) HG9.out (by have := HB7.out.size; simp; omega) (fun q hq => (HO7.out.lt q hq).1)
        have hown9 := HO9.out
        rw [← rdsC_one ⟨rnm, rnum, rden⟩, ← rdsC_append, ← HN.out, show (RK k).length + 1 = (RK (k + 1)).length by rw [HN.out]; simp] at hown9
        have HO10 := Hid.mk hown9
        have HB10 := Hid.mk hB9
        have HLE : Hid ((RK k).length + 1 = (RK (k + 1)).length) := Hid.mk (by rw [HN.out]; simp)
        clear hown9 hB9 hTEN hT6 hT7 hT8 hT9
        go_wp2_with fail
        go_roundw
        case rel => exact ⟨k + 1, by omega, by go_num, by first | exact HO10 | (rw [HLE.out]; exact HO10), HB10⟩
        case measure => simp [intOf]; omega
    · have e : k = mn := by omega
      subst e
      go_wp2_with fail
      go_ret2
      exact ⟨_, rfl, owns_baseP HOW.out HBX.out.size, bl2 HBX.out HB.out⟩
end Bw
end Go.Proofs.YtjgliinpaadbnaaGreatDoor
namespace Go.Proofs.YtjgliinpaadbnaaGreatDoor
open Go.ChangeShapes Go.WideShapes Go.ChangeAt Go.RowKit Go.Sort
namespace Bw
open Sm
set_option maxHeartbeats 8000000 in
set_option maxRecDepth 100000 in
theorem readings_bad (v : MsV) (id : Int) (lo fa re : Bool) (sz : Int) (a : Option Addr) (len cap : Nat) (w : World) (hl : len ≤ maxLen) (hC : chkM v.m = 0) (hF : frEn id lo fa re sz len = 0) (hE : readE v.m id lo fa re sz len ≠ 0) :
    Calls Tryz.prog 15 #[msV v, frameV id lo fa re sz a len cap] w fun e w' => e = .returned (.tuple #[.slice none 0 0, .int .i64 (readE v.m id lo fa re sz len)]) ∧ Below w.heap.size w w' := by
  have HBX := Hid.mk (rd_W0 w v id lo fa re sz a len cap)
  have HMA := Hid.mk (rd_W0m w v id lo fa re sz a len cap)
  have HFA := Hid.mk (rd_W0f w v id lo fa re sz a len cap)
  have hR : readE v.m id lo fa re sz len = if ¬ (id = v.m.id ∧ lo = v.m.lo) ∨ re = true then 8 else if (len : Int) < v.m.size then 7 else 0 := by
    unfold readE
    rw [if_neg (by rw [hC]; simp), if_neg (by rw [hF]; simp)]
  rw [hR] at hE ⊢
  have hlb : (len : Int) ≤ 9223372036854775807 := by unfold maxLen at hl; omega
  obtain ⟨⟨mid, mlo, mnm, size, mch, sigs⟩, ma, mn, mcap⟩ := v
  unfold msC frameC at HBX HMA HFA
  unfold msV frameV
  simp only at HBX HMA HFA hE ⊢
  obtain ⟨c0, c1, c2, c3, c4, c5⟩ := HFA.out
  obtain ⟨m0, m1, m2, m3, m4, m5⟩ := HMA.out
  simp only at m0 m1 m2 m3 m4 m5
  clear hR hC hF hl
  by_cases h1 : id = mid
  · subst h1
    by_cases h2 : lo = mlo
    · subst h2
      cases re with
      | true =>
        rw [if_pos (.inr rfl)]
        clear hE
        go_enter Tryz.func15, Tryz.ntmps15
        go_wp2_with fail
        go_ret2
        exact ⟨rfl, HBX.out⟩
      | false =>
        rw [if_neg (by simp)] at hE ⊢
        by_cases h3 : (len : Int) < size
        · rw [if_pos h3]
          clear hE
          go_enter Tryz.func15, Tryz.ntmps15
          go_wp2_with fail
          go_ret2
          exact ⟨rfl, HBX.out⟩
        · rw [if_neg h3] at hE
          exact absurd rfl hE
    · have hb : (lo == mlo) = false := by simpa using h2
      rw [if_pos (.inl (fun h => h2 h.2))]
      clear hE h2
      go_enter Tryz.func15, Tryz.ntmps15
      go_wp2_with fail
      go_ret2
      exact ⟨rfl, HBX.out⟩
  · have hb : (id != mid) = true := by simpa using h1
    rw [if_pos (.inl (fun h => h1 h.1))]
    clear hE h1
    go_enter Tryz.func15, Tryz.ntmps15
    go_wp2_with fail
    go_ret2
    exact ⟨rfl, HBX.out⟩
theorem readE_chk {m : Msg} {id : Int} {lo fa re : Bool} {sz : Int} {n : Nat} (h : chkM m ≠ 0) : readE m id lo fa re sz n = chkM m := by unfold readE; rw [if_pos h]
theorem readE_fr {m : Msg} {id : Int} {lo fa re : Bool} {sz : Int} {n : Nat} (h : chkM m = 0) (h2 : frEn id lo fa re sz n ≠ 0) : readE m id lo fa re sz n = frEn id lo fa re sz n := by unfold readE; rw [if_neg (by rw [h]; simp), if_pos h2]
theorem rds_post {F : FuncId} {args : Array Value} {W : World} {l : List Rd} {n : Nat} (hn : l.length = n)
    (h : Calls Tryz.prog F args W fun e w' => ∃ u, e = .returned (.tuple #[u, .int .i64 0]) ∧ w'.ownsRow W.heap.size 44 3 u l.length (rdsC l) ∧ Below W.heap.size W w') :
    Calls Tryz.prog F args W fun e w' => ∃ a c, e = .returned (.tuple #[.slice a n c, .int .i64 0]) ∧ IsRds w' a n c l ∧ Below W.heap.size W w' := by
  refine h.mono ?_
  rintro e w' ⟨u, rfl, hown, hb⟩
  obtain ⟨ua, uc, rfl, hR⟩ := rds_own hown
  subst hn
  exact ⟨ua, uc, rfl, hR, hb⟩
end Bw
end Go.Proofs.YtjgliinpaadbnaaGreatDoor
