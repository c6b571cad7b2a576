/- What package message's isThere answers. -/
import Derived.Test.YtgjkioknnjbjfaaDoorMgCheck
import Derived.Test.YtgjkioknnjbjfaaDoorSgFacts2
namespace Go.Proofs.YtgjkioknnjbjfaaDoor
open Go.ChangeShapes Go.WideShapes Go.ChangeAt Go.RowKit
namespace Bw
open Sm
theorem enter_there : ∀ args w, (callFunc 58 args).run Tryd.prog w = .ok (.enter 58 args) w := enters_of Tryd.func58 (by kernel_rfl) rfl
set_option maxHeartbeats 2000000 in
theorem there_any (s : Sig) (g : Nat) (c : Int) (w : World) (hg : w.cell? ⟨g, 0, none⟩ = some (.int .i64 c)) :
    Calls Tryd.prog 58 #[sgV s, .pointer (some ⟨g, 0, none⟩)] w fun e w' => e = .returned (.bool (thB c s)) ∧ Below w.heap.size w w' := by
  have HB := Hid.mk (sg_box w s)
  have hg1 := cell_kept HB.out hg
  have hR : thB c s = (s.ky == -1 || s.ky == c) := rfl
  rw [hR]
  clear hR
  obtain ⟨nm, st, sz, bk, sg, mu, di, ad, ky⟩ := s
  unfold sgC at HB hg1
  unfold sgV
  simp only at HB hg1 ⊢
  by_cases h : ky = -1
  · subst h
    go_enter Tryd.func58, Tryd.ntmps58
    go_wp2_with fail
    go_ret
    exact ⟨rfl, HB.out⟩
  · have e : (ky == -1) = false := by simpa using h
    rw [e]
    clear h
    go_enter Tryd.func58, Tryd.ntmps58
    go_wp2_with fail
    go_ret
    exact ⟨rfl, HB.out⟩
theorem rawD_is {s : Sig} {st sz n : Nat} (hR : Rt s st sz n) (l : List UInt8) : rawD s l = rawR s st sz l := by
  unfold rawD
  rw [hR.hst, hR.hsz, Int.toNat_natCast, Int.toNat_natCast]
theorem chk_len {s : Sig} {n m : Nat} (h : chkS s n = 0) (hnm : n ≤ m) (hm : m ≤ 64) : chkS s m = 0 := by
  obtain ⟨h1, h2, h3, h4, h5⟩ := chk_size h
  unfold chkS
  rw [if_neg (by rw [h1]; simp), if_neg (by rw [h3, inB_yes ⟨by omega, by omega⟩]; simp), if_neg (by rw [inB_yes ⟨h4, by omega⟩]; simp)]
/-- signal.Read of a right signal -/
theorem sread_is (s : Sig) (a : Option Addr) (len cap : Nat) (l : List UInt8) (w : World) (h : wfS s) (hD : IsBytes w a len cap l) {n : Nat} (hE : chkS s n = 0) (hn : n ≤ len) (hl : len ≤ 64) :
    Calls Tryd.prog 36 #[sgV s, .slice a len cap] w fun e w' => e = .returned (.tuple #[.int .i64 (rawD s l), rdV (rdD s l).nm (rdD s l).num (rdD s l).den, .int .i64 0]) ∧ Below w.heap.size w w' := by
  have hE' := chk_len hE hn hl
  obtain ⟨st, sz, hR⟩ := right_of hE'
  have := sread_ok s st sz a len cap l w h hD hE' hR
  unfold rdD
  rw [rawD_is hR]
  exact this
set_option maxHeartbeats 8000000 in
set_option maxRecDepth 100000 in
theorem isThere_none (v : MsV) (d : Value) (w : World) (h0 : v.m.ch < 0) :
    Calls Tryd.prog 35 #[msV v, d] w fun e w' => ∃ g, e = .returned (.func (.func 58) #[] #[.pointer (some ⟨g, 0, none⟩)]) ∧ w'.cell? ⟨g, 0, none⟩ = some (.int .i64 (-1)) ∧ w.heap.size ≤ g ∧ Below w.heap.size w w' := by
  have HBX := Hid.mk (ms_box w v)
  have HA1 := Hid.mk (bl2 HBX.out (awB1 (w.alloc (msC v)) (.cells #[.int .i64 (-1)] 3)))
  have hS : (w.alloc (msC v)).heap.size = w.heap.size + 1 := by simp
  have hnew := cw_new (w.alloc (msC v)) (-1)
  rw [hS] at hnew
  have HN := Hid.mk hnew
  obtain ⟨⟨mid, mlo, mnm, size, mch, sigs⟩, ma, mn, mcap⟩ := v
  unfold msC at HBX HA1 HN
  unfold msV
  simp only at HBX HA1 HN h0 ⊢
  clear hnew hS
  go_enter Tryd.func35, Tryd.ntmps35
  go_wp2_with fail
  go_ret
  exact ⟨_, rfl, HN.out, Nat.le_succ _, HA1.out⟩
set_option maxHeartbeats 8000000 in
set_option maxRecDepth 100000 in
theorem isThere_some (v : MsV) (a : Option Addr) (len cap : Nat) (l : List UInt8) (w : World) (hM : MsIn w v) (hD : IsBytes w a len cap l) {n : Nat} (h0 : 0 ≤ v.m.ch) (h1 : v.m.ch < (v.m.sigs.length : Int)) (hC : chkS (v.m.at v.m.ch.toNat) n = 0) (hn : n ≤ len) (hl : len ≤ 64) :
    Calls Tryd.prog 35 #[msV v, .slice a len cap] w fun e w' => ∃ g, e = .returned (.func (.func 58) #[] #[.pointer (some ⟨g, 0, none⟩)]) ∧ w'.cell? ⟨g, 0, none⟩ = some (.int .i64 (rawD (v.m.at v.m.ch.toNat) l)) ∧ w.heap.size ≤ g ∧ Below w.heap.size w w' := by
  have HBX := Hid.mk (ms_box w v)
  have HA1 := Hid.mk (bl2 HBX.out (awB1 (w.alloc (msC v)) (.cells #[.int .i64 (-1)] 3)))
  have hlen : v.m.sigs.length = v.n := hM.row.len
  obtain ⟨c, hc⟩ : ∃ c : Nat, v.m.ch = c := ⟨v.m.ch.toNat, by omega⟩
  have hcn : c < v.n := by omega
  rw [hc, Int.toNat_natCast] at hC
  rw [hc, Int.toNat_natCast]
  obtain ⟨x, hx⟩ := hM.row.some hcn
  have hr := hM.row
  rw [hx] at hr
  have hS := (hr.kept HA1.out).at hcn
  have e9 : v.m.sigs.getD c noS = v.m.at c := rfl
  rw [e9] at hS
  have HRD := Hid.mk (fun W (hb : Below w.heap.size w W) => sread_is (v.m.at c) a len cap l W (hM.wf _ (v.m.mem (by omega))) (isBytes_below hD hb) hC hn hl)
  have hS1 : (w.alloc (msC v)).heap.size = w.heap.size + 1 := by simp
  have hnew := heap_alloc_new (w.alloc (msC v)) (.cells #[.int .i64 (-1)] 3)
  rw [hS1] at hnew
  have hlt : w.heap.size + 1 < ((w.alloc (msC v)).alloc (.cells #[.int .i64 (-1)] 3)).heap.size := by simp
  have HNEW := Hid.mk hnew
  have HLT := Hid.mk hlt
  generalize rawD (v.m.at c) l = R at *
  generalize v.m.at c = s at *
  generalize rdD s l = RR at *
  obtain ⟨nm, st, sz, bk, sg, mu, di, ad, ky⟩ := s
  obtain ⟨rnm, rnum, rden⟩ := RR
  obtain ⟨⟨mid, mlo, mnm, size, mch, sigs⟩, ma, mn, mcap⟩ := v
  simp only at hc hx hcn hlen
  subst hc
  subst hx
  obtain ⟨s0, s1, s2, s3, s4, s5, s6, s7, s8⟩ := hS
  unfold msC at HBX HA1 s0 s1 s2 s3 s4 s5 s6 s7 s8 HNEW HLT
  unfold sgV rdV at HRD
  unfold msV
  simp only at HBX HA1 HRD s0 s1 s2 s3 s4 s5 s6 s7 s8 HNEW HLT ⊢
  have hcn' : (c : Int) < (mn : Int) := by omega
  have hcn0 : (0 : Int) ≤ (c : Int) := by omega
  clear hM h0 h1 hlen hD hC hn hl e9 hr hS1 hnew hlt
  go_enter Tryd.func35, Tryd.ntmps35
  go_wp2_with fail
  refine (HRD.out _ HA1.out).mono ?_
  rintro e w1 ⟨rfl, hb1⟩
  have HB1 := Hid.mk (bl2 HA1.out hb1)
  have hcell : w1.heap[w.heap.size + 1]? = some (.cells #[.int .i64 (-1)] 3 (0, 0)) := by rw [hb1.block _ HLT.out]; exact HNEW.out
  have c0 := cell_of_row _ _ 0 _ _ _ hcell
  have f0 := frozen_of_row _ _ 0 _ _ hcell
  have HC1 := Hid.mk (heap_setCell_same w1 (w.heap.size + 1) 0 _ _ (.int .i64 R) hcell)
  clear hb1 hcell
  go_wp2_with fail
  go_ret
  refine ⟨_, rfl, cell_of_row _ _ 0 _ _ _ HC1.out, Nat.le_succ _, HB1.out.setCell (p := ⟨w.heap.size + 1, 0, none⟩) (Nat.le_succ _) _⟩
/-- isThere, in one sentence -/
theorem isThere_any (v : MsV) (a : Option Addr) (len cap : Nat) (l : List UInt8) (w : World) (hM : MsIn w v) (hD : IsBytes w a len cap l) {n : Nat} (hO : OkM v.m) (hn : v.m.size = n) (hnl : n ≤ len) (hl : len ≤ 64) :
    Calls Tryd.prog 35 #[msV v, .slice a len cap] w fun e w' => ∃ g, e = .returned (.func (.func 58) #[] #[.pointer (some ⟨g, 0, none⟩)]) ∧ w'.cell? ⟨g, 0, none⟩ = some (.int .i64 (choD v.m l)) ∧ w.heap.size ≤ g ∧ Below w.heap.size w w' := by
  by_cases h : 0 ≤ v.m.ch
  · have e : choD v.m l = rawD (v.m.at v.m.ch.toNat) l := by unfold choD; rw [if_pos h]
    rw [e]
    have h1 := hO.ch1
    exact isThere_some v a len cap l w hM hD h h1 (by rw [← hn]; exact hO.sig (by omega)) hnl hl
  · have e : choD v.m l = -1 := by unfold choD; rw [if_neg h]
    rw [e]
    exact isThere_none v _ w (by omega)
end Bw
end Go.Proofs.YtgjkioknnjbjfaaDoor
