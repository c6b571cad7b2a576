/- What package message's isThere and Read answer. -/
import Derived.Test.YtlnkhlifkooohaaGreatDoorMgCheckA
import Derived.Test.YtlnkhlifkooohaaGreatDoorSgFacts2
namespace Go.Proofs.YtlnkhlifkooohaaGreatDoor
open Go.ChangeShapes Go.WideShapes Go.ChangeAt Go.RowKit
namespace Bw
open Sm
theorem enter_there : ∀ args w, (callFunc 125 args).run Tryz.prog w = .ok (.enter 125 args) w := enters_of Tryz.func125 (by kernel_rfl) rfl
set_option maxHeartbeats 2000000 in
theorem there_any (s : Sig) (g : Nat) (c : Int) (w : World) (hg : w.cell? ⟨g, 0, none⟩ = some (.int .i64 c)) :
    Calls Tryz.prog 125 #[sgV s, .pointer (some ⟨g, 0, none⟩)] w fun e w' => e = .returned (.bool (thB c s)) ∧ Below w.heap.size w w' := by
  have HB := Hid.mk (sg_box w s)
  have hg1 := cell_kept HB.out hg
  have hR : thB c s = (s.ky == -1 || s.ky == c) := rfl
  rw [hR]
  clear hR
  obtain ⟨nm, st, sz, bk, sg, mu, di, ad, ky⟩ := s
  unfold sgC at HB hg1
  unfold sgV
  simp only at HB hg1 ⊢
  by_cases h : ky = -1
  · subst h
    go_enter Tryz.func125, Tryz.ntmps125
    go_wp2_with fail
    go_ret
    exact ⟨rfl, HB.out⟩
  · have e : (ky == -1) = false := by simpa using h
    rw [e]
    clear h
    go_enter Tryz.func125, Tryz.ntmps125
    go_wp2_with fail
    go_ret
    exact ⟨rfl, HB.out⟩
theorem rawD_is {s : Sig} {st sz n : Nat} (hR : Rt s st sz n) (l : List UInt8) : rawD s l = rawR s st sz l := by
  unfold rawD
  rw [hR.hst, hR.hsz, Int.toNat_natCast, Int.toNat_natCast]
theorem chk_len {s : Sig} {n m : Nat} (h : chkS s n = 0) (hnm : n ≤ m) (hm : m ≤ 64) : chkS s m = 0 := by
  obtain ⟨h1, h2, h3, h4, h5⟩ := chk_size h
  unfold chkS
  rw [if_neg (by rw [h1]; simp), if_neg (by rw [h3, inB_yes ⟨by omega, by omega⟩]; simp), if_neg (by rw [inB_yes ⟨h4, by omega⟩]; simp)]
/-- signal.Read of a right signal -/
theorem sread_is (s : Sig) (a : Option Addr) (len cap : Nat) (l : List UInt8) (w : World) (h : wfS s) (hD : IsBytes w a len cap l) {n : Nat} (hE : chkS s n = 0) (hn : n ≤ len) (hl : len ≤ 64) :
    Calls Tryz.prog 86 #[sgV s, .slice a len cap] w fun e w' => e = .returned (.tuple #[.int .i64 (rawD s l), rdV (rdD s l).nm (rdD s l).num (rdD s l).den, .int .i64 0]) ∧ Below w.heap.size w w' := by
  have hE' := chk_len hE hn hl
  obtain ⟨st, sz, hR⟩ := right_of hE'
  have := sread_ok s st sz a len cap l w h hD hE' hR
  unfold rdD
  rw [rawD_is hR]
  exact this
set_option maxHeartbeats 8000000 in
set_option maxRecDepth 100000 in
theorem isThere_none (v : MsV) (d : Value) (w : World) (h0 : v.m.ch < 0) :
    Calls Tryz.prog 76 #[msV v, d] w fun e w' => ∃ g, e = .returned (.func (.func 125) #[] #[.pointer (some ⟨g, 0, none⟩)]) ∧ w'.cell? ⟨g, 0, none⟩ = some (.int .i64 (-1)) ∧ w.heap.size ≤ g ∧ Below w.heap.size w w' := by
  have HBX := Hid.mk (ms_box w v)
  have HA1 := Hid.mk (bl2 HBX.out (awB1 (w.alloc (msC v)) (.cells #[.int .i64 (-1)] 3)))
  have hS : (w.alloc (msC v)).heap.size = w.heap.size + 1 := by simp
  have hnew := cw_new (w.alloc (msC v)) (-1)
  rw [hS] at hnew
  have HN := Hid.mk hnew
  obtain ⟨⟨mid, mlo, mnm, size, mch, sigs⟩, ma, mn, mcap⟩ := v
  unfold msC at HBX HA1 HN
  unfold msV
  simp only at HBX HA1 HN h0 ⊢
  clear hnew hS
  go_enter Tryz.func76, Tryz.ntmps76
  go_wp2_with fail
  go_ret
  exact ⟨_, rfl, HN.out, Nat.le_succ _, HA1.out⟩
set_option maxHeartbeats 8000000 in
set_option maxRecDepth 100000 in
theorem isThere_some (v : MsV) (a : Option Addr) (len cap : Nat) (l : List UInt8) (w : World) (hM : MsIn w v) (hD : IsBytes w a len cap l) {n : Nat} (h0 : 0 ≤ v.m.ch) (h1 : v.m.ch < (v.m.sigs.length : Int)) (hC : chkS (v.m.at v.m.ch.toNat) n = 0) (hn : n ≤ len) (hl : len ≤ 64) :
    Calls Tryz.prog 76 #[msV v, .slice a len cap] w fun e w' => ∃ g, e = .returned (.func (.func 125) #[] #[.pointer (some ⟨g, 0, none⟩)]) ∧ w'.cell? ⟨g, 0, none⟩ = some (.int .i64 (rawD (v.m.at v.m.ch.toNat) l)) ∧ w.heap.size ≤ g ∧ Below w.heap.size w w' := by
  have HBX := Hid.mk (ms_box w v)
  have HA1 := Hid.mk (bl2 HBX.out (awB1 (w.alloc (msC v)) (.cells #[.int .i64 (-1)] 3)))
  have hlen : v.m.sigs.length = v.n := hM.row.len
  obtain ⟨c, hc⟩ : ∃ c : Nat, v.m.ch = c := ⟨v.m.ch.toNat, by omega⟩
  have hcn : c < v.n := by omega
  rw [hc, Int.toNat_natCast] at hC
  rw [hc, Int.toNat_natCast]
  obtain ⟨x, hx⟩ := hM.row.some hcn
  have hr := hM.row
  rw [hx] at hr
  have hS := (hr.kept HA1.out).at hcn
  have e9 : v.m.sigs.getD c noS = v.m.at c := rfl
  rw [e9] at hS
  have HRD := Hid.mk (fun W (hb : Below w.heap.size w W) => sread_is (v.m.at c) a len cap l W (hM.wf _ (v.m.mem (by omega))) (isBytes_below hD hb) hC hn hl)
  have hS1 : (w.alloc (msC v)).heap.size = w.heap.size + 1 := by simp
  have hnew := heap_alloc_new (w.alloc (msC v)) (.cells #[.int .i64 (-1)] 3)
  rw [hS1] at hnew
  have hlt : w.heap.size + 1 < ((w.alloc (msC v)).alloc (.cells #[.int .i64 (-1)] 3)).heap.size := by simp
  have HNEW := Hid.mk hnew
  have HLT := Hid.mk hlt
  generalize rawD (v.m.at c) l = R at *
  generalize v.m.at c = s at *
  generalize rdD s l = RR at *
  obtain ⟨nm, st, sz, bk, sg, mu, di, ad, ky⟩ := s
  obtain ⟨rnm, rnum, rden⟩ := RR
  obtain ⟨⟨mid, mlo, mnm, size, mch, sigs⟩, ma, mn, mcap⟩ := v
  simp only at hc hx hcn hlen
  subst hc
  subst hx
  obtain ⟨s0, s1, s2, s3, s4, s5, s6, s7, s8⟩ := hS
  unfold msC at HBX HA1 s0 s1 s2 s3 s4 s5 s6 s7 s8 HNEW HLT
  unfold sgV rdV at HRD
  unfold msV
  simp only at HBX HA1 HRD s0 s1 s2 s3 s4 s5 s6 s7 s8 HNEW HLT ⊢
  have hcn' : (c : Int) < (mn : Int) := by omega
  have hcn0 : (0 : Int) ≤ (c : Int) := by omega
  clear hM h0 h1 hlen hD hC hn hl e9 hr hS1 hnew hlt
  go_enter Tryz.func76, Tryz.ntmps76
  go_wp2_with fail
  refine (HRD.out _ HA1.out).mono ?_
  rintro e w1 ⟨rfl, hb1⟩
  have HB1 := Hid.mk (bl2 HA1.out hb1)
  have hcell : w1.heap[w.heap.size + 1]? = some (.cells #[.int .i64 (-1)] 3 (0, 0)) := by rw [hb1.block _ HLT.out]; exact HNEW.out
  have c0 := cell_of_row _ _ 0 _ _ _ hcell
  have f0 := frozen_of_row _ _ 0 _ _ hcell
  have HC1 := Hid.mk (heap_setCell_same w1 (w.heap.size + 1) 0 _ _ (.int .i64 R) hcell)
  clear hb1 hcell
  go_wp2_with fail
  go_ret
  refine ⟨_, rfl, cell_of_row _ _ 0 _ _ _ HC1.out, Nat.le_succ _, HB1.out.setCell (p := ⟨w.heap.size + 1, 0, none⟩) (Nat.le_succ _) _⟩
/-- isThere, in one sentence -/
theorem isThere_any (v : MsV) (a : Option Addr) (len cap : Nat) (l : List UInt8) (w : World) (hM : MsIn w v) (hD : IsBytes w a len cap l) {n : Nat} (hO : OkM v.m) (hn : v.m.size = n) (hnl : n ≤ len) (hl : len ≤ 64) :
    Calls Tryz.prog 76 #[msV v, .slice a len cap] w fun e w' => ∃ g, e = .returned (.func (.func 125) #[] #[.pointer (some ⟨g, 0, none⟩)]) ∧ w'.cell? ⟨g, 0, none⟩ = some (.int .i64 (choD v.m l)) ∧ w.heap.size ≤ g ∧ Below w.heap.size w w' := by
  by_cases h : 0 ≤ v.m.ch
  · have e : choD v.m l = rawD (v.m.at v.m.ch.toNat) l := by unfold choD; rw [if_pos h]
    rw [e]
    have h1 := hO.ch1
    exact isThere_some v a len cap l w hM hD h h1 (by rw [← hn]; exact hO.sig (by omega)) hnl hl
  · have e : choD v.m l = -1 := by unfold choD; rw [if_neg h]
    rw [e]
    exact isThere_none v _ w (by omega)
end Bw
end Go.Proofs.YtlnkhlifkooohaaGreatDoor
namespace Go.Proofs.YtlnkhlifkooohaaGreatDoor
open Go.ChangeShapes Go.WideShapes Go.ChangeAt Go.RowKit
namespace Bw
open Sm
/-- readings as cells -/
def rdsC (l : List Rd) : List Value := l.flatMap rdCl
theorem rdsC_append (a b : List Rd) : rdsC (a ++ b) = rdsC a ++ rdsC b := by simp [rdsC]
theorem rdsC_one (r : Rd) : rdsC [r] = [.string r.nm, .int .i64 r.num, .int .i64 r.den] := by simp [rdsC, rdCl]
def readsK (m : Msg) (l : List UInt8) (k : Nat) : List Rd := ((m.sigs.take k).filter (thB (choD m l))).map (fun s => rdD s l)
theorem readsK_zero (m : Msg) (l : List UInt8) : readsK m l 0 = [] := rfl
theorem readsK_all (m : Msg) (l : List UInt8) : readsK m l m.sigs.length = readsD m l := by unfold readsK readsD; rw [List.take_length]
theorem take_next (m : Msg) {k : Nat} (hk : k < m.sigs.length) : m.sigs.take (k + 1) = m.sigs.take k ++ [m.at k] := by
  rw [List.take_succ_eq_append_getElem hk]
  unfold Msg.at
  simp [List.getD, hk]
theorem readsK_yes (m : Msg) (l : List UInt8) {k : Nat} (hk : k < m.sigs.length) (h : thB (choD m l) (m.at k) = true) : readsK m l (k + 1) = readsK m l k ++ [rdD (m.at k) l] := by
  unfold readsK
  rw [take_next m hk, List.filter_append, List.map_append]
  simp [h]
theorem readsK_no (m : Msg) (l : List UInt8) {k : Nat} (hk : k < m.sigs.length) (h : thB (choD m l) (m.at k) = false) : readsK m l (k + 1) = readsK m l k := by
  unfold readsK
  rw [take_next m hk, List.filter_append]
  simp [h]
theorem readsK_len (m : Msg) (l : List UInt8) (k : Nat) : (readsK m l k).length ≤ k := by
  unfold readsK
  rw [List.length_map]
  exact Nat.le_trans (List.length_filter_le _ _) (by simp; omega)
theorem info_rd : (Tryz.prog.info? 44).map (fun i => (i.zero, i.size, i.bytes)) = some (some (.agg #[.string ⟨#[]⟩, .int .i64 0, .int .i64 0]), 3, 32) := by kernel_rfl
theorem row3_atR (W : World) (s : Nat) (hs : s = W.heap.size) (a b c : Value) (t : TypeId) : ∀ j u, [a, b, c][j]? = some u → (W.alloc (.cells #[a, b, c] t)).cell? ((⟨s, 0, none⟩ : Addr).add j) = some u := by
  subst hs
  have h := heap_alloc_new W (.cells #[a, b, c] t)
  intro j u hj
  have ea : (Addr.add ⟨W.heap.size, 0, none⟩ j) = ⟨W.heap.size, j, none⟩ := by simp [Addr.add]; exact fun h => h.symm
  rw [ea, cell_of_row _ _ j _ _ _ h, List.getElem?_toArray]
  exact hj
theorem frEn_len {id : Int} {lo fa re : Bool} {sz : Int} {n : Nat} (h : frEn id lo fa re sz n = 0) : n ≤ 64 := by
  unfold frEn at h
  split at h
  · omega
  split at h
  · omega
  split at h
  · omega
  split at h
  · omega
  rename_i h4
  omega
theorem rd_W0 (w : World) (v : MsV) (id : Int) (lo fa re : Bool) (sz : Int) (a : Option Addr) (len cap : Nat) : Below w.heap.size w ((w.alloc (msC v)).alloc (frameC id lo fa re sz a len cap)) := ((Below.refl _ _).alloc (Nat.le_refl _) _).alloc (by simp) _
theorem rd_W0m (w : World) (v : MsV) (id : Int) (lo fa re : Bool) (sz : Int) (a : Option Addr) (len cap : Nat) : MsAt ((w.alloc (msC v)).alloc (frameC id lo fa re sz a len cap)) w.heap.size v := (MsAt.box w v).kept (awB1 _ _)
theorem rd_W0f (w : World) (v : MsV) (id : Int) (lo fa re : Bool) (sz : Int) (a : Option Addr) (len cap : Nat) : FrAt ((w.alloc (msC v)).alloc (frameC id lo fa re sz a len cap)) (w.heap.size + 1) id lo fa re sz a len cap := by
  have := FrAt.box (w.alloc (msC v)) id lo fa re sz a len cap
  rw [show (w.alloc (msC v)).heap.size = w.heap.size + 1 by simp] at this
  exact this
set_option maxHeartbeats 8000000 in
set_option maxRecDepth 100000 in
theorem mread_bad (v : MsV) (id : Int) (lo fa re : Bool) (sz : Int) (a : Option Addr) (len cap : Nat) (w : World) (hM : MsIn w v) (hS : SizesAt w) (hl : len ≤ maxLen) (hE : readE v.m id lo fa re sz len ≠ 0) :
    Calls Tryz.prog 35 #[msV v, frameV id lo fa re sz a len cap] w fun e w' => e = .returned (.tuple #[.slice none 0 0, .int .i64 (readE v.m id lo fa re sz len)]) ∧ Below w.heap.size w w' := by
  have HBX := Hid.mk (rd_W0 w v id lo fa re sz a len cap)
  have HMA := Hid.mk (rd_W0m w v id lo fa re sz a len cap)
  have HFA := Hid.mk (rd_W0f w v id lo fa re sz a len cap)
  have HC := Hid.mk (mcheck_any v _ (hM.kept HBX.out) (hS.kept HBX.out))
  have HK := Hid.mk (fun W (h : Below w.heap.size w W) => frCheck_any id lo fa re sz a len cap W (hS.kept h) hl)
  have HI := Hid.mk (fun W => isOf_any id lo fa re sz a len cap v W)
  have hlb : (len : Int) ≤ 9223372036854775807 := by unfold maxLen at hl; omega
  have hR : readE v.m id lo fa re sz len = if chkM v.m ≠ 0 then chkM v.m else if frEn id lo fa re sz len ≠ 0 then frEn id lo fa re sz len else if ofB id lo v = false ∨ re = true then 8 else if (len : Int) < v.m.size then 7 else 0 := by
    unfold readE
    congr 2
    congr 1
    have e : (¬ (id = v.m.id ∧ lo = v.m.lo)) = (ofB id lo v = false) := by
      unfold ofB
      rw [Bool.and_eq_false_iff]
      apply propext
      constructor
      · intro h
        by_cases h1 : id = v.m.id
        · right; simpa using fun h2 => h ⟨h1, h2⟩
        · left; simpa using h1
      · rintro (h | h) ⟨h1, h2⟩
        · simp [h1] at h
        · simp [h2] at h
    rw [e]
  rw [hR] at hE ⊢
  generalize chkM v.m = CE at *
  generalize frEn id lo fa re sz len = FE at *
  generalize ofB id lo v = OB at *
  obtain ⟨⟨mid, mlo, mnm, size, mch, sigs⟩, ma, mn, mcap⟩ := v
  unfold msC frameC at HBX HMA HFA HC
  unfold msV at HC HI ⊢
  unfold frameV at HK HI ⊢
  simp only at HBX HMA HFA HC HI HK hE ⊢
  clear hM hS hl hR
  by_cases h0 : CE = 0
  case neg =>
    rw [if_pos h0]
    have hne : (CE != 0) = true := by simpa using h0
    clear h0 hE
    go_enter Tryz.func35, Tryz.ntmps35
    go_wp2_with fail
    refine HC.out.mono ?_
    rintro e w1 ⟨rfl, hb1⟩
    have HB1 := Hid.mk (bl2 HBX.out hb1)
    clear hb1
    go_wp2_with fail
    go_ret2
    exact ⟨rfl, HB1.out⟩
  case pos =>
    subst h0
    rw [if_neg (by simp : ¬ (0 : Int) ≠ 0)] at hE ⊢
    by_cases h1 : FE = 0
    case neg =>
      rw [if_pos h1]
      have hne : (FE != 0) = true := by simpa using h1
      clear h1 hE
      go_enter Tryz.func35, Tryz.ntmps35
      go_wp2_with fail
      refine HC.out.mono ?_
      rintro e w1 ⟨rfl, hb1⟩
      have HB1 := Hid.mk (bl2 HBX.out hb1)
      obtain ⟨c0, c1, c2, c3, c4, c5⟩ := HFA.out.kept hb1
      clear hb1
      go_wp2_with fail
      refine (HK.out _ HB1.out).mono ?_
      rintro e w2 ⟨rfl, hb2⟩
      have HB2 := Hid.mk (bl2 HB1.out hb2)
      clear hb2
      go_wp2_with fail
      go_ret2
      exact ⟨rfl, HB2.out⟩
    case pos =>
      subst h1
      rw [if_neg (by simp : ¬ (0 : Int) ≠ 0)] at hE ⊢
      generalize hRR : (if OB = false ∨ re = true then (8 : Int) else if (len : Int) < size then 7 else 0) = R at *
      have HR := Hid.mk hRR
      have HE := Hid.mk hE
      clear hRR hE
      go_enter Tryz.func35, Tryz.ntmps35
      go_wp2_with fail
      refine HC.out.mono ?_
      rintro e w1 ⟨rfl, hb1⟩
      have HB1 := Hid.mk (bl2 HBX.out hb1)
      have HF1 := Hid.mk (HFA.out.kept hb1)
      have HM1 := Hid.mk (HMA.out.kept hb1)
      obtain ⟨c0, c1, c2, c3, c4, c5⟩ := HF1.out
      clear hb1 HC HBX HFA HMA
      go_wp2_with fail
      refine (HK.out _ HB1.out).mono ?_
      rintro e w2 ⟨rfl, hb2⟩
      have HB2 := Hid.mk (bl2 HB1.out hb2)
      have HF2 := Hid.mk (HF1.out.kept hb2)
      have HM2 := Hid.mk (HM1.out.kept hb2)
      obtain ⟨c0, c1, c2, c3, c4, c5⟩ := HF2.out
      obtain ⟨m0, m1, m2, m3, m4, m5⟩ := HM2.out
      simp only at m0 m1 m2 m3 m4 m5
      clear hb2 HF1 HM1 HB1
      go_wp2_with fail
      refine (HI.out _).mono ?_
      rintro e w3 ⟨rfl, hb3⟩
      have HB3 := Hid.mk (bl2 HB2.out hb3)
      obtain ⟨c0, c1, c2, c3, c4, c5⟩ := HF2.out.kept hb3
      obtain ⟨m0, m1, m2, m3, m4, m5⟩ := HM2.out.kept hb3
      simp only at m0 m1 m2 m3 m4 m5
      clear hb3 HF2 HM2 HB2
      cases OB with
      | false =>
        have HV : Hid (R = 8) := Hid.mk (by rw [← HR.out, if_pos (.inl rfl)])
        clear HR
        go_wp2_with fail
        go_ret2
        exact ⟨by rw [HV.out]; rfl, HB3.out⟩
      | true =>
        cases re with
        | true =>
          have HV : Hid (R = 8) := Hid.mk (by rw [← HR.out, if_pos (.inr rfl)])
          clear HR
          go_wp2_with fail
          go_ret2
          exact ⟨by rw [HV.out]; rfl, HB3.out⟩
        | false =>
          have hls : (len : Int) < size := by
            have h1 := HE.out
            have h2 := HR.out
            rw [if_neg (by simp)] at h2
            by_cases h3 : (len : Int) < size
            · exact h3
            · rw [if_neg h3] at h2; exact absurd h2.symm h1
          have HV : Hid (R = 7) := Hid.mk (by rw [← HR.out, if_neg (by simp), if_pos hls])
          clear HR
          go_wp2_with fail
          go_ret2
          exact ⟨by rw [HV.out]; rfl, HB3.out⟩
end Bw
end Go.Proofs.YtlnkhlifkooohaaGreatDoor
namespace Go.Proofs.YtlnkhlifkooohaaGreatDoor
open Go.ChangeShapes Go.WideShapes Go.ChangeAt Go.RowKit
namespace Bw
open Sm
theorem readE_ok {m : Msg} {id : Int} {lo fa re : Bool} {sz : Int} {n : Nat} (h : readE m id lo fa re sz n = 0) : OkM m ∧ frEn id lo fa re sz n = 0 ∧ (id = m.id ∧ lo = m.lo) ∧ re = false ∧ m.size ≤ n := by
  unfold readE at h
  split at h
  · rename_i h1; exact absurd h h1
  rename_i h1
  split at h
  · rename_i h2; exact absurd h h2
  rename_i h2
  split at h
  · omega
  rename_i h3
  split at h
  · omega
  rename_i h4
  refine ⟨chkM_ok (Decidable.not_not.1 h1), Decidable.not_not.1 h2, ?_, ?_, by omega⟩
  · exact Decidable.not_not.1 (fun h5 => h3 (.inl h5))
  · cases re
    · rfl
    · exact absurd (.inr rfl) h3
theorem rd_cells (w : World) (nm : ByteArray) (n d : Int) : (w.alloc (.cells #[.string nm, .int .i64 n, .int .i64 d] 44)).cell? ⟨w.heap.size, 0, none⟩ = some (.string nm) ∧ (w.alloc (.cells #[.string nm, .int .i64 n, .int .i64 d] 44)).cell? ⟨w.heap.size, 1, none⟩ = some (.int .i64 n) ∧ (w.alloc (.cells #[.string nm, .int .i64 n, .int .i64 d] 44)).cell? ⟨w.heap.size, 2, none⟩ = some (.int .i64 d) := by
  have h := fun j => cell_of_row _ _ j _ _ _ (heap_alloc_new w (.cells #[.string nm, .int .i64 n, .int .i64 d] 44))
  exact ⟨h 0, h 1, h 2⟩
set_option maxHeartbeats 16000000 in
set_option maxRecDepth 100000 in
theorem mread_ok (v : MsV) (id : Int) (lo fa re : Bool) (sz : Int) (a : Option Addr) (len cap : Nat) (dt : List UInt8) (w : World) (hM : MsIn w v) (hS : SizesAt w) (hD : IsBytes w a len cap dt) (hE : readE v.m id lo fa re sz len = 0) :
    Calls Tryz.prog 35 #[msV v, frameV id lo fa re sz a len cap] w fun e w' => ∃ u, e = .returned (.tuple #[u, .int .i64 0]) ∧ w'.ownsRow w.heap.size 44 3 u (readsD v.m dt).length (rdsC (readsD v.m dt)) ∧ Below w.heap.size w w' := by
  obtain ⟨i0, hi, hz0, hz1, hz2⟩ := info_parts info_rd
  obtain ⟨hO, hFE, hid, hre, hsz⟩ := readE_ok hE
  have hCM : chkM v.m = 0 := by
    unfold readE at hE
    split at hE
    · rename_i h1; exact absurd hE h1
    · rename_i h1; exact Decidable.not_not.1 h1
  have hl64 := frEn_len hFE
  obtain ⟨n8, hn8⟩ : ∃ n8 : Nat, v.m.size = n8 := ⟨v.m.size.toNat, by have := hO.size0; omega⟩
  have hn8l : n8 ≤ len := by omega
  have hlm : len ≤ maxLen := by unfold maxLen; omega
  have HBX := Hid.mk (rd_W0 w v id lo fa re sz a len cap)
  have HMA := Hid.mk (rd_W0m w v id lo fa re sz a len cap)
  have HFA := Hid.mk (rd_W0f w v id lo fa re sz a len cap)
  have hC := mcheck_any v _ (hM.kept HBX.out) (hS.kept HBX.out)
  rw [hCM] at hC
  have HC := Hid.mk hC
  have hK := fun W (h : Below w.heap.size w W) => frCheck_any id lo fa re sz a len cap W (hS.kept h) hlm
  rw [hFE] at hK
  have HK := Hid.mk hK
  have hI := fun W => isOf_any id lo fa re sz a len cap v W
  have hob : ofB id lo v = true := by unfold ofB; simp [hid.1, hid.2]
  rw [hob] at hI
  have HI := Hid.mk hI
  have HT := Hid.mk (fun W (h : Below w.heap.size w W) => isThere_any v a len cap dt W (hM.kept h) (isBytes_below hD h) hO hn8 hn8l hl64)
  have hlen : v.m.sigs.length = v.n := hM.row.len
  have hn16 : v.n ≤ 16 := by have := hO.many; omega
  have HRD := Hid.mk (fun i (hi : i < v.n) W (h : Below w.heap.size w W) => sread_is (v.m.at i) a len cap dt W (hM.wf _ (v.m.mem (by rw [hlen]; exact hi))) (isBytes_below hD h) (by rw [← hn8]; exact hO.sig (by rw [hlen]; exact hi)) hn8l hl64)
  have HROW := Hid.mk hM.row
  have HGD : Hid (∀ i, v.m.at i = v.m.sigs.getD i noS) := Hid.mk (fun _ => rfl)
  have HYES := Hid.mk (fun k (hk : k < v.n) (h : thB (choD v.m dt) (v.m.at k) = true) => readsK_yes v.m dt (by rw [hlen]; exact hk) h)
  have HNO := Hid.mk (fun k (hk : k < v.n) (h : thB (choD v.m dt) (v.m.at k) = false) => readsK_no v.m dt (by rw [hlen]; exact hk) h)
  have HLEN := Hid.mk (readsK_len v.m dt)
  have hall := readsK_all v.m dt
  rw [hlen] at hall
  rw [← hall]
  have HZ := Hid.mk (readsK_zero v.m dt)
  have hsl : ¬ ((len : Int) < v.m.size) := by omega
  have hlb : (len : Int) ≤ 9223372036854775807 := by omega
  clear hCM hC hK hI hob hE hO hFE hid hsz hM hS hD hlm hall
  generalize readsK v.m dt = RK at *
  generalize choD v.m dt = cho at *
  generalize hS : v.m.at = S at *
  clear hS
  obtain ⟨⟨mid, mlo, mnm, size, mch, sigs⟩, ma, mn, mcap⟩ := v
  unfold msC frameC at HBX HMA HFA HC
  unfold msV at HC HI HT ⊢
  unfold frameV at HK HI ⊢
  simp only at HBX HMA HFA HC HI HT HK HROW HGD HRD hn16 hsl HYES HNO ⊢
  subst hre
  clear hlen hn8 hn8l hl64
  go_enter Tryz.func35, Tryz.ntmps35
  go_wp2_with fail
  refine HC.out.mono ?_
  rintro e w1 ⟨rfl, hb1⟩
  have HB1 := Hid.mk (bl2 HBX.out hb1)
  have HF1 := Hid.mk (HFA.out.kept hb1)
  have HM1 := Hid.mk (HMA.out.kept hb1)
  obtain ⟨c0, c1, c2, c3, c4, c5⟩ := HF1.out
  clear hb1 HC HBX HFA HMA
  go_wp2_with fail
  refine (HK.out _ HB1.out).mono ?_
  rintro e w2 ⟨rfl, hb2⟩
  have HB2 := Hid.mk (bl2 HB1.out hb2)
  have HF2 := Hid.mk (HF1.out.kept hb2)
  have HM2 := Hid.mk (HM1.out.kept hb2)
  obtain ⟨c0, c1, c2, c3, c4, c5⟩ := HF2.out
  obtain ⟨m0, m1, m2, m3, m4, m5⟩ := HM2.out
  simp only at m0 m1 m2 m3 m4 m5
  clear hb2 HF1 HM1 HB1
  go_wp2_with fail
  refine (HI.out _).mono ?_
  rintro e w3 ⟨rfl, hb3⟩
  have HB3 := Hid.mk (bl2 HB2.out hb3)
  have HF3 := Hid.mk (HF2.out.kept hb3)
  have HM3 := Hid.mk (HM2.out.kept hb3)
  obtain ⟨c0, c1, c2, c3, c4, c5⟩ := HF3.out
  obtain ⟨m0, m1, m2, m3, m4, m5⟩ := HM3.out
  simp only at m0 m1 m2 m3 m4 m5
  clear hb3 HF2 HM2 HB2 HK HI
  go_wp2_with fail
  refine (HT.out _ HB3.out).mono ?_
  rintro e w4 ⟨gt, rfl, hgt, hgb, hb4⟩
  have HB4 := Hid.mk (bl2 HB3.out hb4)
  have HF4 := Hid.mk (HF3.out.kept hb4)
  have HM4 := Hid.mk (HM3.out.kept hb4)
  have HGT := Hid.mk hgt
  obtain ⟨m0, m1, m2, m3, m4, m5⟩ := HM4.out
  simp only at m0 m1 m2 m3 m4 m5
  clear hb4 HF3 HM3 HB3 HT hgt hgb
  have hent := enter_there
  go_wp2_with fail
  go_loopw [9, 48] (fun u i wr => ∃ k : Nat, k ≤ mn ∧ i = .int .i64 k ∧ Hid (wr.ownsRow w4.heap.size 44 3 u (RK k).length (rdsC (RK k))) ∧ Hid (Below w4.heap.size w4 wr)) (fun _ i _ => mn - (intOf i).toNat)
  case atStart => exact ⟨0, Nat.zero_le _, rfl, Hid.mk (by rw [HZ.out]; exact World.ownsRow_nil _ _ _ _), Hid.mk (Below.refl _ _)⟩
  case round =>
    obtain ⟨k, hk, rfl, HOW, HB⟩ := hrel
    by_cases hlt : k < mn
    · have hlt' : (k : Int) < (mn : Int) := by omega
      obtain ⟨x, hx⟩ := HROW.out.some hlt
      subst hx
      have hSg := (HROW.out.kept (bl2 HB4.out HB.out)).at hlt
      rw [← HGD.out] at hSg
      have HBX1 := Hid.mk (sg_box wr (S k))
      have HSAT := Hid.mk (SgAt.box wr (S k))
      have HTH := Hid.mk (fun W (hb : Below wr.heap.size wr W) => there_any (S k) gt cho W (cell_kept (bl2 HB.out hb) HGT.out))
      have HRk := Hid.mk (HRD.out k hlt)
      have HYk := Hid.mk (HYES.out k hlt)
      have HNk := Hid.mk (HNO.out k hlt)
      have hlk := HLEN.out k
      generalize thB cho (S k) = TH at *
      generalize rdD (S k) dt = RR at *
      generalize rawD (S k) dt = RW at *
      generalize S k = sk at *
      obtain ⟨nm, st, sz', bk, sg, mu, di, ad, ky⟩ := sk
      obtain ⟨rnm, rnum, rden⟩ := RR
      unfold sgC at HBX1 HSAT
      unfold sgV at HTH HRk
      unfold rdV at HRk
      simp only at HBX1 HSAT HTH HRk HYk HNk
      obtain ⟨s0, s1, s2, s3, s4, s5, s6, s7, s8⟩ := hSg
      simp only at s0 s1 s2 s3 s4 s5 s6 s7 s8
      cases TH with
      | false =>
        have hn := HNk.out rfl
        have HN := Hid.mk hn
        clear hn HYk HNk
        go_wp2_with (go_at_fn 125; refine (HTH.out _ HBX1.out).mono ?_; rintro e w5 ⟨rfl, hb5⟩)
        have HB5 := Hid.mk (bl2 HB.out (bl2 HBX1.out hb5))
        have HO5 := Hid.mk (ownsRow_below HOW.out (bl2 HBX1.out hb5))
        clear hb5
        go_roundw
        case rel => exact ⟨k + 1, by omega, by go_num, by rw [HN.out]; exact HO5, HB5⟩
        case measure => simp [intOf]; omega
      | true =>
        have hn := HYk.out rfl
        have HN := Hid.mk hn
        clear hn HYk HNk
        go_wp2_with (go_at_fn 125; refine (HTH.out _ HBX1.out).mono ?_; rintro e w5 ⟨rfl, hb5⟩; have HB5 := Hid.mk (bl2 HB.out (bl2 HBX1.out hb5)); have HO5 := Hid.mk (ownsRow_below HOW.out (bl2 HBX1.out hb5)); obtain ⟨s0, s1, s2, s3, s4, s5, s6, s7, s8⟩ := HSAT.out.kept hb5; obtain ⟨c0, c1, c2, c3, c4, c5⟩ := HF4.out.kept HB5.out; clear hb5; simp only at s0 s1 s2 s3 s4 s5 s6 s7 s8)
        refine (HRk.out _ (bl2 HB4.out HB5.out)).mono ?_
        rintro e w6 ⟨rfl, hb6⟩
        have HB6 := Hid.mk (bl2 HB5.out hb6)
        have HO6 := Hid.mk (ownsRow_below HO5.out hb6)
        have HA6 := Hid.mk (awB1 w6 (.cells #[.string rnm, .int .i64 rnum, .int .i64 rden] 44))
        have HRA := Hid.mk (rd_cells w6 rnm rnum rden)
        have HB7 := Hid.mk (bl2 HB6.out HA6.out)
        have HO7 := Hid.mk (ownsRow_below HO6.out HA6.out)
        obtain ⟨r0, r1, r2⟩ := HRA.out
        have hlk' : (RK k).length ≤ 16 := by omega
        clear hb6 s0 s1 s2 s3 s4 s5 s6 s7 s8 c0 c1 c2 c3 c4 c5
        go_wp2_with (at_builtin; refine wpList_append_own _ rfl (.tmp 63) (.tmp 65) 25 rfl w4.heap.size 44 i0 (.agg #[.string ⟨#[]⟩, .int .i64 0, .int .i64 0]) 3 32 Tryz.underlying25 hi hz0 hz1 hz2 rfl (by decide) _ _ _ rfl (HO7.out.alloc _) ⟨w6.heap.size + 1, 0, none⟩ 1 1 [Value.string rnm, Value.int .i64 rnum, Value.int .i64 rden] rfl rfl (row3_atR _ _ (by simp) _ _ _ _) (by intro u hu; simp at hu; rcases hu with rfl | rfl | rfl <;> rfl) (by unfold maxLen; omega) (by omega) (by have := HB7.out.size; simp at this; simp; omega) ?_; intro v8 w8 hown8 hgrow8 _)
        have hB8 : Below w4.heap.size w4 w8 := Below.grown (HB7.out.alloc HB7.out.size _) hgrow8 (by have := HB7.out.size; simp at this; simp; omega) (fun q hq => (HO7.out.lt q hq).1)
        have hown9 := hown8
        rw [← rdsC_one ⟨rnm, rnum, rden⟩, ← rdsC_append, ← HN.out, show (RK k).length + 1 = (RK (k + 1)).length by rw [HN.out]; simp] at hown9
        have HO9 := Hid.mk hown9
        have HB9 := Hid.mk hB8
        clear hown8 hown9 hB8 hgrow8
        go_roundw
        case rel => exact ⟨k + 1, by omega, by go_num, HO9, HB9⟩
        case measure => simp [intOf]; omega
    · have e : k = mn := by omega
      subst e
      go_wp2_with fail
      go_ret2
      exact ⟨_, rfl, owns_baseP HOW.out HB4.out.size, bl2 HB4.out HB.out⟩
end Bw
end Go.Proofs.YtlnkhlifkooohaaGreatDoor
