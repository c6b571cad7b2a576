/- slices.Equal of readings; the closed fact that the laws on messages ask first. -/
import Derived.Test.YtlnkhlifkooohaaGreatDoorSgFacts
import Derived.Test.YtlnkhlifkooohaaGreatDoorMgCheckA
import Derived.Test.YtlnkhlifkooohaaGreatDoorMsgMath
import Derived.Maps.OwnSet
import Derived.Shelf.Abstract
import Derived.Deep.OwnRows
import Derived.Test.YtlnkhlifkooohaaGreatDoorBase8
namespace Go.Proofs.YtlnkhlifkooohaaGreatDoor
open Go.ChangeShapes Go.WideShapes Go.ChangeAt Go.RowKit Go.Sort
namespace Bw
open Sm
theorem denL_le {n d : Int} (hd : 0 < d) : denL n d ≤ d := by
  have e := (low_mul (n := n) (d := d)).2
  have h1 := denL_pos (n := n) hd
  have h2 := gcd_pos (n := n) hd
  have h3 : 1 * denL n d ≤ (Int.gcd n d : Int) * denL n d := Int.mul_le_mul_of_nonneg_right (by omega) (by omega)
  omega
/-- what a raw number means is written as that raw number -/
theorem back_frac {s : Sig} {st sz n : Nat} (hR : Rt s st sz n) {R : Int} (h1 : lowS s.sg sz ≤ R) (h2 : R ≤ highS s.sg sz) (hN1 : -1099511627776 ≤ numL (meanN s R) s.di) (hN2 : numL (meanN s R) s.di ≤ 1099511627776) :
    rawE s sz (numL (meanN s R) s.di) (denL (meanN s R) s.di) = 0 ∧ rawV s (numL (meanN s R) s.di) (denL (meanN s R) s.di) = R := by
  have hdi : 0 < s.di := by have := hR.di1; omega
  have e := low_mul (n := meanN s R) (d := s.di)
  have hD := denL_pos (n := meanN s R) hdi
  have hDl := denL_le (n := meanN s R) hdi
  have hM : meanN s R = R * s.mu + s.ad * s.di := rfl
  generalize numL (meanN s R) s.di = N at *
  generalize denL (meanN s R) s.di = D at *
  have hX : N * s.di = meanN s R * D := by
    obtain ⟨e1, e2⟩ := e
    generalize (Int.gcd (meanN s R) s.di : Int) = G at *
    rw [e2, e1, ← Int.mul_assoc, Int.mul_comm N G]
  have hw : wholeI s N D = R * partI s D := by
    unfold wholeI partI
    rw [Int.sub_mul, hX, hM, Int.add_mul, Int.mul_assoc s.ad D, Int.mul_comm D s.di, ← Int.mul_assoc s.ad, Int.add_sub_cancel, Int.mul_assoc, Int.mul_comm s.mu]
  have hf : fracB N D = true := by
    unfold fracB
    rw [inB_yes (by have := hR.di2; omega), inB_yes ⟨hN1, hN2⟩]
    rfl
  have hp := (whole_bound hR hf).2.2.2
  have hv : (wholeI s N D).tdiv (partI s D) = R := by rw [hw]; exact Int.mul_tdiv_cancel _ hp
  refine ⟨?_, hv⟩
  unfold rawE
  rw [if_neg (by rw [hf]; simp), if_neg (by rw [hw, Int.mul_tmod_left]; simp), if_neg (by rw [hv, inB_yes ⟨h1, h2⟩]; simp)]
theorem rawR_span {s : Sig} {st sz n : Nat} (hR : Rt s st sz n) (l : List UInt8) : lowS s.sg sz ≤ rawR s st sz l ∧ rawR s st sz l ≤ highS s.sg sz := by
  unfold rawR
  refine rawS_span hR.s1 (by omega) ?_
  have h := uN_lt s.bk st sz l
  have e : ((2 ^ sz : Nat) : Int) = 2 ^ sz := by simp
  rw [← e]
  omega
/-- Read, in one sentence -/
theorem sread_spec (s : Sig) (a : Option Addr) (len cap : Nat) (l : List UInt8) (w : World) (h : wfS s) (hD : IsBytes w a len cap l) :
    Calls Tryz.prog 86 #[sgV s, .slice a len cap] w fun e w' => Below w.heap.size w w' ∧
      ((∃ E, E ≠ 0 ∧ chkS s len ≠ 0 ∧ e = .returned (.tuple #[.int .i64 0, rdV ⟨#[]⟩ 0 0, .int .i64 E])) ∨
       (chkS s len = 0 ∧ ∃ st sz, Rt s st sz len ∧ e = .returned (.tuple #[.int .i64 (rawR s st sz l), rdV s.nm (numL (meanN s (rawR s st sz l)) s.di) (denL (meanN s (rawR s st sz l)) s.di), .int .i64 0]))) := by
  have hlen : len ≤ maxLen := Nat.le_trans hD.2.1 hD.2.2.1
  by_cases hE : chkS s len = 0
  · obtain ⟨st, sz, hR⟩ := right_of hE
    refine (sread_ok s st sz a len cap l w h hD hE hR).mono ?_
    rintro e w' ⟨h1, h2⟩
    exact ⟨h2, .inr ⟨hE, st, sz, hR, h1⟩⟩
  · refine (sread_bad s a len cap w h hlen hE).mono ?_
    rintro e w' ⟨h1, h2⟩
    exact ⟨h2, .inl ⟨_, hE, hE, h1⟩⟩
theorem xor_u8 {a b : Nat} (ha : a < 256) (hb : b < 256) : bits .xor .u8 (a : Int) (b : Int) = ((a ^^^ b : Nat) : Int) := by
  have e : IntKind.u8.bits = 8 := rfl
  have ha' : a % 2 ^ 8 = a := Nat.mod_eq_of_lt (by omega)
  have hb' : b % 2 ^ 8 = b := Nat.mod_eq_of_lt (by omega)
  have hx : a ^^^ b < 2 ^ 8 := Nat.xor_lt_two_pow (by omega) (by omega)
  simp only [bits, BitVec.ofInt_natCast, BitVec.toNat_xor, BitVec.toNat_ofNat, e, ha', hb']
  simp only [IntKind.wrap, IntKind.bits, IntKind.signed]
  simp
  omega
theorem xor_bit (a b k : Nat) : (a ^^^ b) / 2 ^ k % 2 = if a / 2 ^ k % 2 = b / 2 ^ k % 2 then 0 else 1 := by
  rw [← Nat.toNat_testBit, ← Nat.toNat_testBit, ← Nat.toNat_testBit, Nat.testBit_xor]
  cases a.testBit k <;> cases b.testBit k <;> rfl
/-- are the two bits not alike? -/
theorem xor_and {a b k : Nat} (ha : a < 256) (hb : b < 256) (hk : k < 8) : bits .and .u8 (bits .xor .u8 (a : Int) (b : Int) / 2 ^ k) 1 = ((if a / 2 ^ k % 2 = b / 2 ^ k % 2 then 0 else 1 : Nat) : Int) := by
  have hx : a ^^^ b < 2 ^ 8 := Nat.xor_lt_two_pow (by omega) (by omega)
  rw [xor_u8 ha hb, shr_and (by omega) hk, xor_bit]
theorem zeros_at (w : World) (n : Nat) (hn : n ≤ 64) : IsBytes (w.alloc (.cells (madeCells #[.int .u8 0] n) 5)) (some ⟨w.heap.size, 0, none⟩) n n (List.replicate n 0) := by
  refine ⟨List.length_replicate, Nat.le_refl _, by unfold maxLen; omega, (fun h => by cases h), fun x hx i hi => ?_⟩
  cases hx
  rw [Addr.add_lit, Nat.zero_add, cell_of_row _ _ i _ _ _ (heap_alloc_new w _)]
  have e : (madeCells #[Value.int .u8 0] n).toList = List.replicate n (.int .u8 0) := toList_madeCells_one ..
  rw [← Array.getElem?_toList, e, List.getElem?_replicate, if_pos hi]
  simp [List.getD, hi]
theorem place_or {bk : Bool} {st sz q : Nat} : (∃ i, i < sz ∧ plN bk st sz i = q) ∨ (∀ i, i < sz → plN bk st sz i ≠ q) := by
  by_cases h : ∃ i, i < sz ∧ plN bk st sz i = q
  · exact .inl h
  · exact .inr (fun i hi e => h ⟨i, hi, e⟩)
theorem mem_pls {bk : Bool} {st sz q : Nat} (h : ∃ i, i < sz ∧ plN bk st sz i = q) : (q : Int) ∈ plsL bk st sz sz := by
  obtain ⟨i, hi, rfl⟩ := h
  exact List.mem_map.2 ⟨i, List.mem_range.2 hi, rfl⟩
end Bw
end Go.Proofs.YtlnkhlifkooohaaGreatDoor
namespace Go.Proofs.YtlnkhlifkooohaaGreatDoor
open Go.ChangeShapes Go.WideShapes Go.ChangeAt Go.RowKit
namespace Bw
open Sm
theorem enter_there : ∀ args w, (callFunc 125 args).run Tryz.prog w = .ok (.enter 125 args) w := enters_of Tryz.func125 (by kernel_rfl) rfl
set_option maxHeartbeats 2000000 in
theorem there_any (s : Sig) (g : Nat) (c : Int) (w : World) (hg : w.cell? ⟨g, 0, none⟩ = some (.int .i64 c)) :
    Calls Tryz.prog 125 #[sgV s, .pointer (some ⟨g, 0, none⟩)] w fun e w' => e = .returned (.bool (thB c s)) ∧ Below w.heap.size w w' := by
  have HB := Hid.mk (sg_box w s)
  have hg1 := cell_kept HB.out hg
  have hR : thB c s = (s.ky == -1 || s.ky == c) := rfl
  rw [hR]
  clear hR
  obtain ⟨nm, st, sz, bk, sg, mu, di, ad, ky⟩ := s
  unfold sgC at HB hg1
  unfold sgV
  simp only at HB hg1 ⊢
  by_cases h : ky = -1
  · subst h
    go_enter Tryz.func125, Tryz.ntmps125
    go_wp2_with fail
    go_ret
    exact ⟨rfl, HB.out⟩
  · have e : (ky == -1) = false := by simpa using h
    rw [e]
    clear h
    go_enter Tryz.func125, Tryz.ntmps125
    go_wp2_with fail
    go_ret
    exact ⟨rfl, HB.out⟩
theorem rawD_is {s : Sig} {st sz n : Nat} (hR : Rt s st sz n) (l : List UInt8) : rawD s l = rawR s st sz l := by
  unfold rawD
  rw [hR.hst, hR.hsz, Int.toNat_natCast, Int.toNat_natCast]
theorem chk_len {s : Sig} {n m : Nat} (h : chkS s n = 0) (hnm : n ≤ m) (hm : m ≤ 64) : chkS s m = 0 := by
  obtain ⟨h1, h2, h3, h4, h5⟩ := chk_size h
  unfold chkS
  rw [if_neg (by rw [h1]; simp), if_neg (by rw [h3, inB_yes ⟨by omega, by omega⟩]; simp), if_neg (by rw [inB_yes ⟨h4, by omega⟩]; simp)]
/-- signal.Read of a right signal -/
theorem sread_is (s : Sig) (a : Option Addr) (len cap : Nat) (l : List UInt8) (w : World) (h : wfS s) (hD : IsBytes w a len cap l) {n : Nat} (hE : chkS s n = 0) (hn : n ≤ len) (hl : len ≤ 64) :
    Calls Tryz.prog 86 #[sgV s, .slice a len cap] w fun e w' => e = .returned (.tuple #[.int .i64 (rawD s l), rdV (rdD s l).nm (rdD s l).num (rdD s l).den, .int .i64 0]) ∧ Below w.heap.size w w' := by
  have hE' := chk_len hE hn hl
  obtain ⟨st, sz, hR⟩ := right_of hE'
  have := sread_ok s st sz a len cap l w h hD hE' hR
  unfold rdD
  rw [rawD_is hR]
  exact this
set_option maxHeartbeats 8000000 in
set_option maxRecDepth 100000 in
theorem isThere_none (v : MsV) (d : Value) (w : World) (h0 : v.m.ch < 0) :
    Calls Tryz.prog 76 #[msV v, d] w fun e w' => ∃ g, e = .returned (.func (.func 125) #[] #[.pointer (some ⟨g, 0, none⟩)]) ∧ w'.cell? ⟨g, 0, none⟩ = some (.int .i64 (-1)) ∧ w.heap.size ≤ g ∧ Below w.heap.size w w' := by
  have HBX := Hid.mk (ms_box w v)
  have HA1 := Hid.mk (bl2 HBX.out (awB1 (w.alloc (msC v)) (.cells #[.int .i64 (-1)] 3)))
  have hS : (w.alloc (msC v)).heap.size = w.heap.size + 1 := by simp
  have hnew := cw_new (w.alloc (msC v)) (-1)
  rw [hS] at hnew
  have HN := Hid.mk hnew
  obtain ⟨⟨mid, mlo, mnm, size, mch, sigs⟩, ma, mn, mcap⟩ := v
  unfold msC at HBX HA1 HN
  unfold msV
  simp only at HBX HA1 HN h0 ⊢
  clear hnew hS
  go_enter Tryz.func76, Tryz.ntmps76
  go_wp2_with fail
  go_ret
  exact ⟨_, rfl, HN.out, Nat.le_succ _, HA1.out⟩
set_option maxHeartbeats 8000000 in
set_option maxRecDepth 100000 in
theorem isThere_some (v : MsV) (a : Option Addr) (len cap : Nat) (l : List UInt8) (w : World) (hM : MsIn w v) (hD : IsBytes w a len cap l) {n : Nat} (h0 : 0 ≤ v.m.ch) (h1 : v.m.ch < (v.m.sigs.length : Int)) (hC : chkS (v.m.at v.m.ch.toNat) n = 0) (hn : n ≤ len) (hl : len ≤ 64) :
    Calls Tryz.prog 76 #[msV v, .slice a len cap] w fun e w' => ∃ g, e = .returned (.func (.func 125) #[] #[.pointer (some ⟨g, 0, none⟩)]) ∧ w'.cell? ⟨g, 0, none⟩ = some (.int .i64 (rawD (v.m.at v.m.ch.toNat) l)) ∧ w.heap.size ≤ g ∧ Below w.heap.size w w' := by
  have HBX := Hid.mk (ms_box w v)
  have HA1 := Hid.mk (bl2 HBX.out (awB1 (w.alloc (msC v)) (.cells #[.int .i64 (-1)] 3)))
  have hlen : v.m.sigs.length = v.n := hM.row.len
  obtain ⟨c, hc⟩ : ∃ c : Nat, v.m.ch = c := ⟨v.m.ch.toNat, by omega⟩
  have hcn : c < v.n := by omega
  rw [hc, Int.toNat_natCast] at hC
  rw [hc, Int.toNat_natCast]
  obtain ⟨x, hx⟩ := hM.row.some hcn
  have hr := hM.row
  rw [hx] at hr
  have hS := (hr.kept HA1.out).at hcn
  have e9 : v.m.sigs.getD c noS = v.m.at c := rfl
  rw [e9] at hS
  have HRD := Hid.mk (fun W (hb : Below w.heap.size w W) => sread_is (v.m.at c) a len cap l W (hM.wf _ (v.m.mem (by omega))) (isBytes_below hD hb) hC hn hl)
  have hS1 : (w.alloc (msC v)).heap.size = w.heap.size + 1 := by simp
  have hnew := heap_alloc_new (w.alloc (msC v)) (.cells #[.int .i64 (-1)] 3)
  rw [hS1] at hnew
  have hlt : w.heap.size + 1 < ((w.alloc (msC v)).alloc (.cells #[.int .i64 (-1)] 3)).heap.size := by simp
  have HNEW := Hid.mk hnew
  have HLT := Hid.mk hlt
  generalize rawD (v.m.at c) l = R at *
  generalize v.m.at c = s at *
  generalize rdD s l = RR at *
  obtain ⟨nm, st, sz, bk, sg, mu, di, ad, ky⟩ := s
  obtain ⟨rnm, rnum, rden⟩ := RR
  obtain ⟨⟨mid, mlo, mnm, size, mch, sigs⟩, ma, mn, mcap⟩ := v
  simp only at hc hx hcn hlen
  subst hc
  subst hx
  obtain ⟨s0, s1, s2, s3, s4, s5, s6, s7, s8⟩ := hS
  unfold msC at HBX HA1 s0 s1 s2 s3 s4 s5 s6 s7 s8 HNEW HLT
  unfold sgV rdV at HRD
  unfold msV
  simp only at HBX HA1 HRD s0 s1 s2 s3 s4 s5 s6 s7 s8 HNEW HLT ⊢
  have hcn' : (c : Int) < (mn : Int) := by omega
  have hcn0 : (0 : Int) ≤ (c : Int) := by omega
  clear hM h0 h1 hlen hD hC hn hl e9 hr hS1 hnew hlt
  go_enter Tryz.func76, Tryz.ntmps76
  go_wp2_with fail
  refine (HRD.out _ HA1.out).mono ?_
  rintro e w1 ⟨rfl, hb1⟩
  have HB1 := Hid.mk (bl2 HA1.out hb1)
  have hcell : w1.heap[w.heap.size + 1]? = some (.cells #[.int .i64 (-1)] 3 (0, 0)) := by rw [hb1.block _ HLT.out]; exact HNEW.out
  have c0 := cell_of_row _ _ 0 _ _ _ hcell
  have f0 := frozen_of_row _ _ 0 _ _ hcell
  have HC1 := Hid.mk (heap_setCell_same w1 (w.heap.size + 1) 0 _ _ (.int .i64 R) hcell)
  clear hb1 hcell
  go_wp2_with fail
  go_ret
  refine ⟨_, rfl, cell_of_row _ _ 0 _ _ _ HC1.out, Nat.le_succ _, HB1.out.setCell (p := ⟨w.heap.size + 1, 0, none⟩) (Nat.le_succ _) _⟩
/-- isThere, in one sentence -/
theorem isThere_any (v : MsV) (a : Option Addr) (len cap : Nat) (l : List UInt8) (w : World) (hM : MsIn w v) (hD : IsBytes w a len cap l) {n : Nat} (hO : OkM v.m) (hn : v.m.size = n) (hnl : n ≤ len) (hl : len ≤ 64) :
    Calls Tryz.prog 76 #[msV v, .slice a len cap] w fun e w' => ∃ g, e = .returned (.func (.func 125) #[] #[.pointer (some ⟨g, 0, none⟩)]) ∧ w'.cell? ⟨g, 0, none⟩ = some (.int .i64 (choD v.m l)) ∧ w.heap.size ≤ g ∧ Below w.heap.size w w' := by
  by_cases h : 0 ≤ v.m.ch
  · have e : choD v.m l = rawD (v.m.at v.m.ch.toNat) l := by unfold choD; rw [if_pos h]
    rw [e]
    have h1 := hO.ch1
    exact isThere_some v a len cap l w hM hD h h1 (by rw [← hn]; exact hO.sig (by omega)) hnl hl
  · have e : choD v.m l = -1 := by unfold choD; rw [if_neg h]
    rw [e]
    exact isThere_none v _ w (by omega)
end Bw
end Go.Proofs.YtlnkhlifkooohaaGreatDoor
namespace Go.Proofs.YtlnkhlifkooohaaGreatDoor
open Go.ChangeShapes Go.WideShapes Go.ChangeAt Go.RowKit
namespace Bw
open Sm
/-- readings as cells -/
def rdsC (l : List Rd) : List Value := l.flatMap rdCl
theorem rdsC_append (a b : List Rd) : rdsC (a ++ b) = rdsC a ++ rdsC b := by simp [rdsC]
theorem rdsC_one (r : Rd) : rdsC [r] = [.string r.nm, .int .i64 r.num, .int .i64 r.den] := by simp [rdsC, rdCl]
def readsK (m : Msg) (l : List UInt8) (k : Nat) : List Rd := ((m.sigs.take k).filter (thB (choD m l))).map (fun s => rdD s l)
theorem readsK_zero (m : Msg) (l : List UInt8) : readsK m l 0 = [] := rfl
theorem readsK_all (m : Msg) (l : List UInt8) : readsK m l m.sigs.length = readsD m l := by unfold readsK readsD; rw [List.take_length]
theorem take_next (m : Msg) {k : Nat} (hk : k < m.sigs.length) : m.sigs.take (k + 1) = m.sigs.take k ++ [m.at k] := by
  rw [List.take_succ_eq_append_getElem hk]
  unfold Msg.at
  simp [List.getD, hk]
theorem readsK_yes (m : Msg) (l : List UInt8) {k : Nat} (hk : k < m.sigs.length) (h : thB (choD m l) (m.at k) = true) : readsK m l (k + 1) = readsK m l k ++ [rdD (m.at k) l] := by
  unfold readsK
  rw [take_next m hk, List.filter_append, List.map_append]
  simp [h]
theorem readsK_no (m : Msg) (l : List UInt8) {k : Nat} (hk : k < m.sigs.length) (h : thB (choD m l) (m.at k) = false) : readsK m l (k + 1) = readsK m l k := by
  unfold readsK
  rw [take_next m hk, List.filter_append]
  simp [h]
theorem readsK_len (m : Msg) (l : List UInt8) (k : Nat) : (readsK m l k).length ≤ k := by
  unfold readsK
  rw [List.length_map]
  exact Nat.le_trans (List.length_filter_le _ _) (by simp; omega)
theorem info_rd : (Tryz.prog.info? 44).map (fun i => (i.zero, i.size, i.bytes)) = some (some (.agg #[.string ⟨#[]⟩, .int .i64 0, .int .i64 0]), 3, 32) := by kernel_rfl
theorem row3_atR (W : World) (s : Nat) (hs : s = W.heap.size) (a b c : Value) (t : TypeId) : ∀ j u, [a, b, c][j]? = some u → (W.alloc (.cells #[a, b, c] t)).cell? ((⟨s, 0, none⟩ : Addr).add j) = some u := by
  subst hs
  have h := heap_alloc_new W (.cells #[a, b, c] t)
  intro j u hj
  have ea : (Addr.add ⟨W.heap.size, 0, none⟩ j) = ⟨W.heap.size, j, none⟩ := by simp [Addr.add]; exact fun h => h.symm
  rw [ea, cell_of_row _ _ j _ _ _ h, List.getElem?_toArray]
  exact hj
theorem frEn_len {id : Int} {lo fa re : Bool} {sz : Int} {n : Nat} (h : frEn id lo fa re sz n = 0) : n ≤ 64 := by
  unfold frEn at h
  split at h
  · omega
  split at h
  · omega
  split at h
  · omega
  split at h
  · omega
  rename_i h4
  omega
theorem rd_W0 (w : World) (v : MsV) (id : Int) (lo fa re : Bool) (sz : Int) (a : Option Addr) (len cap : Nat) : Below w.heap.size w ((w.alloc (msC v)).alloc (frameC id lo fa re sz a len cap)) := ((Below.refl _ _).alloc (Nat.le_refl _) _).alloc (by simp) _
theorem rd_W0m (w : World) (v : MsV) (id : Int) (lo fa re : Bool) (sz : Int) (a : Option Addr) (len cap : Nat) : MsAt ((w.alloc (msC v)).alloc (frameC id lo fa re sz a len cap)) w.heap.size v := (MsAt.box w v).kept (awB1 _ _)
theorem rd_W0f (w : World) (v : MsV) (id : Int) (lo fa re : Bool) (sz : Int) (a : Option Addr) (len cap : Nat) : FrAt ((w.alloc (msC v)).alloc (frameC id lo fa re sz a len cap)) (w.heap.size + 1) id lo fa re sz a len cap := by
  have := FrAt.box (w.alloc (msC v)) id lo fa re sz a len cap
  rw [show (w.alloc (msC v)).heap.size = w.heap.size + 1 by simp] at this
  exact this
set_option maxHeartbeats 8000000 in
set_option maxRecDepth 100000 in
theorem mread_bad (v : MsV) (id : Int) (lo fa re : Bool) (sz : Int) (a : Option Addr) (len cap : Nat) (w : World) (hM : MsIn w v) (hS : SizesAt w) (hl : len ≤ maxLen) (hE : readE v.m id lo fa re sz len ≠ 0) :
    Calls Tryz.prog 35 #[msV v, frameV id lo fa re sz a len cap] w fun e w' => e = .returned (.tuple #[.slice none 0 0, .int .i64 (readE v.m id lo fa re sz len)]) ∧ Below w.heap.size w w' := by
  have HBX := Hid.mk (rd_W0 w v id lo fa re sz a len cap)
  have HMA := Hid.mk (rd_W0m w v id lo fa re sz a len cap)
  have HFA := Hid.mk (rd_W0f w v id lo fa re sz a len cap)
  have HC := Hid.mk (mcheck_any v _ (hM.kept HBX.out) (hS.kept HBX.out))
  have HK := Hid.mk (fun W (h : Below w.heap.size w W) => frCheck_any id lo fa re sz a len cap W (hS.kept h) hl)
  have HI := Hid.mk (fun W => isOf_any id lo fa re sz a len cap v W)
  have hlb : (len : Int) ≤ 9223372036854775807 := by unfold maxLen at hl; omega
  have hR : readE v.m id lo fa re sz len = if chkM v.m ≠ 0 then chkM v.m else if frEn id lo fa re sz len ≠ 0 then frEn id lo fa re sz len else if ofB id lo v = false ∨ re = true then 8 else if (len : Int) < v.m.size then 7 else 0 := by
    unfold readE
    congr 2
    congr 1
    have e : (¬ (id = v.m.id ∧ lo = v.m.lo)) = (ofB id lo v = false) := by
      unfold ofB
      rw [Bool.and_eq_false_iff]
      apply propext
      constructor
      · intro h
        by_cases h1 : id = v.m.id
        · right; simpa using fun h2 => h ⟨h1, h2⟩
        · left; simpa using h1
      · rintro (h | h) ⟨h1, h2⟩
        · simp [h1] at h
        · simp [h2] at h
    rw [e]
  rw [hR] at hE ⊢
  generalize chkM v.m = CE at *
  generalize frEn id lo fa re sz len = FE at *
  generalize ofB id lo v = OB at *
  obtain ⟨⟨mid, mlo, mnm, size, mch, sigs⟩, ma, mn, mcap⟩ := v
  unfold msC frameC at HBX HMA HFA HC
  unfold msV at HC HI ⊢
  unfold frameV at HK HI ⊢
  simp only at HBX HMA HFA HC HI HK hE ⊢
  clear hM hS hl hR
  by_cases h0 : CE = 0
  case neg =>
    rw [if_pos h0]
    have hne : (CE != 0) = true := by simpa using h0
    clear h0 hE
    go_enter Tryz.func35, Tryz.ntmps35
    go_wp2_with fail
    refine HC.out.mono ?_
    rintro e w1 ⟨rfl, hb1⟩
    have HB1 := Hid.mk (bl2 HBX.out hb1)
    clear hb1
    go_wp2_with fail
    go_ret2
    exact ⟨rfl, HB1.out⟩
  case pos =>
    subst h0
    rw [if_neg (by simp : ¬ (0 : Int) ≠ 0)] at hE ⊢
    by_cases h1 : FE = 0
    case neg =>
      rw [if_pos h1]
      have hne : (FE != 0) = true := by simpa using h1
      clear h1 hE
      go_enter Tryz.func35, Tryz.ntmps35
      go_wp2_with fail
      refine HC.out.mono ?_
      rintro e w1 ⟨rfl, hb1⟩
      have HB1 := Hid.mk (bl2 HBX.out hb1)
      obtain ⟨c0, c1, c2, c3, c4, c5⟩ := HFA.out.kept hb1
      clear hb1
      go_wp2_with fail
      refine (HK.out _ HB1.out).mono ?_
      rintro e w2 ⟨rfl, hb2⟩
      have HB2 := Hid.mk (bl2 HB1.out hb2)
      clear hb2
      go_wp2_with fail
      go_ret2
      exact ⟨rfl, HB2.out⟩
    case pos =>
      subst h1
      rw [if_neg (by simp : ¬ (0 : Int) ≠ 0)] at hE ⊢
      generalize hRR : (if OB = false ∨ re = true then (8 : Int) else if (len : Int) < size then 7 else 0) = R at *
      have HR := Hid.mk hRR
      have HE := Hid.mk hE
      clear hRR hE
      go_enter Tryz.func35, Tryz.ntmps35
      go_wp2_with fail
      refine HC.out.mono ?_
      rintro e w1 ⟨rfl, hb1⟩
      have HB1 := Hid.mk (bl2 HBX.out hb1)
      have HF1 := Hid.mk (HFA.out.kept hb1)
      have HM1 := Hid.mk (HMA.out.kept hb1)
      obtain ⟨c0, c1, c2, c3, c4, c5⟩ := HF1.out
      clear hb1 HC HBX HFA HMA
      go_wp2_with fail
      refine (HK.out _ HB1.out).mono ?_
      rintro e w2 ⟨rfl, hb2⟩
      have HB2 := Hid.mk (bl2 HB1.out hb2)
      have HF2 := Hid.mk (HF1.out.kept hb2)
      have HM2 := Hid.mk (HM1.out.kept hb2)
      obtain ⟨c0, c1, c2, c3, c4, c5⟩ := HF2.out
      obtain ⟨m0, m1, m2, m3, m4, m5⟩ := HM2.out
      simp only at m0 m1 m2 m3 m4 m5
      clear hb2 HF1 HM1 HB1
      go_wp2_with fail
      refine (HI.out _).mono ?_
      rintro e w3 ⟨rfl, hb3⟩
      have HB3 := Hid.mk (bl2 HB2.out hb3)
      obtain ⟨c0, c1, c2, c3, c4, c5⟩ := HF2.out.kept hb3
      obtain ⟨m0, m1, m2, m3, m4, m5⟩ := HM2.out.kept hb3
      simp only at m0 m1 m2 m3 m4 m5
      clear hb3 HF2 HM2 HB2
      cases OB with
      | false =>
        have HV : Hid (R = 8) := Hid.mk (by rw [← HR.out, if_pos (.inl rfl)])
        clear HR
        go_wp2_with fail
        go_ret2
        exact ⟨by rw [HV.out]; rfl, HB3.out⟩
      | true =>
        cases re with
        | true =>
          have HV : Hid (R = 8) := Hid.mk (by rw [← HR.out, if_pos (.inr rfl)])
          clear HR
          go_wp2_with fail
          go_ret2
          exact ⟨by rw [HV.out]; rfl, HB3.out⟩
        | false =>
          have hls : (len : Int) < size := by
            have h1 := HE.out
            have h2 := HR.out
            rw [if_neg (by simp)] at h2
            by_cases h3 : (len : Int) < size
            · exact h3
            · rw [if_neg h3] at h2; exact absurd h2.symm h1
          have HV : Hid (R = 7) := Hid.mk (by rw [← HR.out, if_neg (by simp), if_pos hls])
          clear HR
          go_wp2_with fail
          go_ret2
          exact ⟨by rw [HV.out]; rfl, HB3.out⟩
end Bw
end Go.Proofs.YtlnkhlifkooohaaGreatDoor
namespace Go.Proofs.YtlnkhlifkooohaaGreatDoor
open Go.ChangeShapes Go.WideShapes Go.ChangeAt Go.RowKit
namespace Bw
open Sm
theorem readE_ok {m : Msg} {id : Int} {lo fa re : Bool} {sz : Int} {n : Nat} (h : readE m id lo fa re sz n = 0) : OkM m ∧ frEn id lo fa re sz n = 0 ∧ (id = m.id ∧ lo = m.lo) ∧ re = false ∧ m.size ≤ n := by
  unfold readE at h
  split at h
  · rename_i h1; exact absurd h h1
  rename_i h1
  split at h
  · rename_i h2; exact absurd h h2
  rename_i h2
  split at h
  · omega
  rename_i h3
  split at h
  · omega
  rename_i h4
  refine ⟨chkM_ok (Decidable.not_not.1 h1), Decidable.not_not.1 h2, ?_, ?_, by omega⟩
  · exact Decidable.not_not.1 (fun h5 => h3 (.inl h5))
  · cases re
    · rfl
    · exact absurd (.inr rfl) h3
theorem rd_cells (w : World) (nm : ByteArray) (n d : Int) : (w.alloc (.cells #[.string nm, .int .i64 n, .int .i64 d] 44)).cell? ⟨w.heap.size, 0, none⟩ = some (.string nm) ∧ (w.alloc (.cells #[.string nm, .int .i64 n, .int .i64 d] 44)).cell? ⟨w.heap.size, 1, none⟩ = some (.int .i64 n) ∧ (w.alloc (.cells #[.string nm, .int .i64 n, .int .i64 d] 44)).cell? ⟨w.heap.size, 2, none⟩ = some (.int .i64 d) := by
  have h := fun j => cell_of_row _ _ j _ _ _ (heap_alloc_new w (.cells #[.string nm, .int .i64 n, .int .i64 d] 44))
  exact ⟨h 0, h 1, h 2⟩
set_option maxHeartbeats 16000000 in
set_option maxRecDepth 100000 in
theorem mread_ok (v : MsV) (id : Int) (lo fa re : Bool) (sz : Int) (a : Option Addr) (len cap : Nat) (dt : List UInt8) (w : World) (hM : MsIn w v) (hS : SizesAt w) (hD : IsBytes w a len cap dt) (hE : readE v.m id lo fa re sz len = 0) :
    Calls Tryz.prog 35 #[msV v, frameV id lo fa re sz a len cap] w fun e w' => ∃ u, e = .returned (.tuple #[u, .int .i64 0]) ∧ w'.ownsRow w.heap.size 44 3 u (readsD v.m dt).length (rdsC (readsD v.m dt)) ∧ Below w.heap.size w w' := by
  obtain ⟨i0, hi, hz0, hz1, hz2⟩ := info_parts info_rd
  obtain ⟨hO, hFE, hid, hre, hsz⟩ := readE_ok hE
  have hCM : chkM v.m = 0 := by
    unfold readE at hE
    split at hE
    · rename_i h1; exact absurd hE h1
    · rename_i h1; exact Decidable.not_not.1 h1
  have hl64 := frEn_len hFE
  obtain ⟨n8, hn8⟩ : ∃ n8 : Nat, v.m.size = n8 := ⟨v.m.size.toNat, by have := hO.size0; omega⟩
  have hn8l : n8 ≤ len := by omega
  have hlm : len ≤ maxLen := by unfold maxLen; omega
  have HBX := Hid.mk (rd_W0 w v id lo fa re sz a len cap)
  have HMA := Hid.mk (rd_W0m w v id lo fa re sz a len cap)
  have HFA := Hid.mk (rd_W0f w v id lo fa re sz a len cap)
  have hC := mcheck_any v _ (hM.kept HBX.out) (hS.kept HBX.out)
  rw [hCM] at hC
  have HC := Hid.mk hC
  have hK := fun W (h : Below w.heap.size w W) => frCheck_any id lo fa re sz a len cap W (hS.kept h) hlm
  rw [hFE] at hK
  have HK := Hid.mk hK
  have hI := fun W => isOf_any id lo fa re sz a len cap v W
  have hob : ofB id lo v = true := by unfold ofB; simp [hid.1, hid.2]
  rw [hob] at hI
  have HI := Hid.mk hI
  have HT := Hid.mk (fun W (h : Below w.heap.size w W) => isThere_any v a len cap dt W (hM.kept h) (isBytes_below hD h) hO hn8 hn8l hl64)
  have hlen : v.m.sigs.length = v.n := hM.row.len
  have hn16 : v.n ≤ 16 := by have := hO.many; omega
  have HRD := Hid.mk (fun i (hi : i < v.n) W (h : Below w.heap.size w W) => sread_is (v.m.at i) a len cap dt W (hM.wf _ (v.m.mem (by rw [hlen]; exact hi))) (isBytes_below hD h) (by rw [← hn8]; exact hO.sig (by rw [hlen]; exact hi)) hn8l hl64)
  have HROW := Hid.mk hM.row
  have HGD : Hid (∀ i, v.m.at i = v.m.sigs.getD i noS) := Hid.mk (fun _ => rfl)
  have HYES := Hid.mk (fun k (hk : k < v.n) (h : thB (choD v.m dt) (v.m.at k) = true) => readsK_yes v.m dt (by rw [hlen]; exact hk) h)
  have HNO := Hid.mk (fun k (hk : k < v.n) (h : thB (choD v.m dt) (v.m.at k) = false) => readsK_no v.m dt (by rw [hlen]; exact hk) h)
  have HLEN := Hid.mk (readsK_len v.m dt)
  have hall := readsK_all v.m dt
  rw [hlen] at hall
  rw [← hall]
  have HZ := Hid.mk (readsK_zero v.m dt)
  have hsl : ¬ ((len : Int) < v.m.size) := by omega
  have hlb : (len : Int) ≤ 9223372036854775807 := by omega
  clear hCM hC hK hI hob hE hO hFE hid hsz hM hS hD hlm hall
  generalize readsK v.m dt = RK at *
  generalize choD v.m dt = cho at *
  generalize hS : v.m.at = S at *
  clear hS
  obtain ⟨⟨mid, mlo, mnm, size, mch, sigs⟩, ma, mn, mcap⟩ := v
  unfold msC frameC at HBX HMA HFA HC
  unfold msV at HC HI HT ⊢
  unfold frameV at HK HI ⊢
  simp only at HBX HMA HFA HC HI HT HK HROW HGD HRD hn16 hsl HYES HNO ⊢
  subst hre
  clear hlen hn8 hn8l hl64
  go_enter Tryz.func35, Tryz.ntmps35
  go_wp2_with fail
  refine HC.out.mono ?_
  rintro e w1 ⟨rfl, hb1⟩
  have HB1 := Hid.mk (bl2 HBX.out hb1)
  have HF1 := Hid.mk (HFA.out.kept hb1)
  have HM1 := Hid.mk (HMA.out.kept hb1)
  obtain ⟨c0, c1, c2, c3, c4, c5⟩ := HF1.out
  clear hb1 HC HBX HFA HMA
  go_wp2_with fail
  refine (HK.out _ HB1.out).mono ?_
  rintro e w2 ⟨rfl, hb2⟩
  have HB2 := Hid.mk (bl2 HB1.out hb2)
  have HF2 := Hid.mk (HF1.out.kept hb2)
  have HM2 := Hid.mk (HM1.out.kept hb2)
  obtain ⟨c0, c1, c2, c3, c4, c5⟩ := HF2.out
  obtain ⟨m0, m1, m2, m3, m4, m5⟩ := HM2.out
  simp only at m0 m1 m2 m3 m4 m5
  clear hb2 HF1 HM1 HB1
  go_wp2_with fail
  refine (HI.out _).mono ?_
  rintro e w3 ⟨rfl, hb3⟩
  have HB3 := Hid.mk (bl2 HB2.out hb3)
  have HF3 := Hid.mk (HF2.out.kept hb3)
  have HM3 := Hid.mk (HM2.out.kept hb3)
  obtain ⟨c0, c1, c2, c3, c4, c5⟩ := HF3.out
  obtain ⟨m0, m1, m2, m3, m4, m5⟩ := HM3.out
  simp only at m0 m1 m2 m3 m4 m5
  clear hb3 HF2 HM2 HB2 HK HI
  go_wp2_with fail
  refine (HT.out _ HB3.out).mono ?_
  rintro e w4 ⟨gt, rfl, hgt, hgb, hb4⟩
  have HB4 := Hid.mk (bl2 HB3.out hb4)
  have HF4 := Hid.mk (HF3.out.kept hb4)
  have HM4 := Hid.mk (HM3.out.kept hb4)
  have HGT := Hid.mk hgt
  obtain ⟨m0, m1, m2, m3, m4, m5⟩ := HM4.out
  simp only at m0 m1 m2 m3 m4 m5
  clear hb4 HF3 HM3 HB3 HT hgt hgb
  have hent := enter_there
  go_wp2_with fail
  go_loopw [9, 48] (fun u i wr => ∃ k : Nat, k ≤ mn ∧ i = .int .i64 k ∧ Hid (wr.ownsRow w4.heap.size 44 3 u (RK k).length (rdsC (RK k))) ∧ Hid (Below w4.heap.size w4 wr)) (fun _ i _ => mn - (intOf i).toNat)
  case atStart => exact ⟨0, Nat.zero_le _, rfl, Hid.mk (by rw [HZ.out]; exact World.ownsRow_nil _ _ _ _), Hid.mk (Below.refl _ _)⟩
  case round =>
    obtain ⟨k, hk, rfl, HOW, HB⟩ := hrel
    by_cases hlt : k < mn
    · have hlt' : (k : Int) < (mn : Int) := by omega
      obtain ⟨x, hx⟩ := HROW.out.some hlt
      subst hx
      have hSg := (HROW.out.kept (bl2 HB4.out HB.out)).at hlt
      rw [← HGD.out] at hSg
      have HBX1 := Hid.mk (sg_box wr (S k))
      have HSAT := Hid.mk (SgAt.box wr (S k))
      have HTH := Hid.mk (fun W (hb : Below wr.heap.size wr W) => there_any (S k) gt cho W (cell_kept (bl2 HB.out hb) HGT.out))
      have HRk := Hid.mk (HRD.out k hlt)
      have HYk := Hid.mk (HYES.out k hlt)
      have HNk := Hid.mk (HNO.out k hlt)
      have hlk := HLEN.out k
      generalize thB cho (S k) = TH at *
      generalize rdD (S k) dt = RR at *
      generalize rawD (S k) dt = RW at *
      generalize S k = sk at *
      obtain ⟨nm, st, sz', bk, sg, mu, di, ad, ky⟩ := sk
      obtain ⟨rnm, rnum, rden⟩ := RR
      unfold sgC at HBX1 HSAT
      unfold sgV at HTH HRk
      unfold rdV at HRk
      simp only at HBX1 HSAT HTH HRk HYk HNk
      obtain ⟨s0, s1, s2, s3, s4, s5, s6, s7, s8⟩ := hSg
      simp only at s0 s1 s2 s3 s4 s5 s6 s7 s8
      cases TH with
      | false =>
        have hn := HNk.out rfl
        have HN := Hid.mk hn
        clear hn HYk HNk
        go_wp2_with (go_at_fn 125; refine (HTH.out _ HBX1.out).mono ?_; rintro e w5 ⟨rfl, hb5⟩)
        have HB5 := Hid.mk (bl2 HB.out (bl2 HBX1.out hb5))
        have HO5 := Hid.mk (ownsRow_below HOW.out (bl2 HBX1.out hb5))
        clear hb5
        go_roundw
        case rel => exact ⟨k + 1, by omega, by go_num, by rw [HN.out]; exact HO5, HB5⟩
        case measure => simp [intOf]; omega
      | true =>
        have hn := HYk.out rfl
        have HN := Hid.mk hn
        clear hn HYk HNk
        go_wp2_with (go_at_fn 125; refine (HTH.out _ HBX1.out).mono ?_; rintro e w5 ⟨rfl, hb5⟩; have HB5 := Hid.mk (bl2 HB.out (bl2 HBX1.out hb5)); have HO5 := Hid.mk (ownsRow_below HOW.out (bl2 HBX1.out hb5)); obtain ⟨s0, s1, s2, s3, s4, s5, s6, s7, s8⟩ := HSAT.out.kept hb5; obtain ⟨c0, c1, c2, c3, c4, c5⟩ := HF4.out.kept HB5.out; clear hb5; simp only at s0 s1 s2 s3 s4 s5 s6 s7 s8)
        refine (HRk.out _ (bl2 HB4.out HB5.out)).mono ?_
        rintro e w6 ⟨rfl, hb6⟩
        have HB6 := Hid.mk (bl2 HB5.out hb6)
        have HO6 := Hid.mk (ownsRow_below HO5.out hb6)
        have HA6 := Hid.mk (awB1 w6 (.cells #[.string rnm, .int .i64 rnum, .int .i64 rden] 44))
        have HRA := Hid.mk (rd_cells w6 rnm rnum rden)
        have HB7 := Hid.mk (bl2 HB6.out HA6.out)
        have HO7 := Hid.mk (ownsRow_below HO6.out HA6.out)
        obtain ⟨r0, r1, r2⟩ := HRA.out
        have hlk' : (RK k).length ≤ 16 := by omega
        clear hb6 s0 s1 s2 s3 s4 s5 s6 s7 s8 c0 c1 c2 c3 c4 c5
        go_wp2_with (at_builtin; refine wpList_append_own _ rfl (.tmp 63) (.tmp 65) 25 rfl w4.heap.size 44 i0 (.agg #[.string ⟨#[]⟩, .int .i64 0, .int .i64 0]) 3 32 Tryz.underlying25 hi hz0 hz1 hz2 rfl (by decide) _ _ _ rfl (HO7.out.alloc _) ⟨w6.heap.size + 1, 0, none⟩ 1 1 [Value.string rnm, Value.int .i64 rnum, Value.int .i64 rden] rfl rfl (row3_atR _ _ (by simp) _ _ _ _) (by intro u hu; simp at hu; rcases hu with rfl | rfl | rfl <;> rfl) (by unfold maxLen; omega) (by omega) (by have := HB7.out.size; simp at this; simp; omega) ?_; intro v8 w8 hown8 hgrow8 _)
        have hB8 : Below w4.heap.size w4 w8 := Below.grown (HB7.out.alloc HB7.out.size _) hgrow8 (by have := HB7.out.size; simp at this; simp; omega) (fun q hq => (HO7.out.lt q hq).1)
        have hown9 := hown8
        rw [← rdsC_one ⟨rnm, rnum, rden⟩, ← rdsC_append, ← HN.out, show (RK k).length + 1 = (RK (k + 1)).length by rw [HN.out]; simp] at hown9
        have HO9 := Hid.mk hown9
        have HB9 := Hid.mk hB8
        clear hown8 hown9 hB8 hgrow8
        go_roundw
        case rel => exact ⟨k + 1, by omega, by go_num, HO9, HB9⟩
        case measure => simp [intOf]; omega
    · have e : k = mn := by omega
      subst e
      go_wp2_with fail
      go_ret2
      exact ⟨_, rfl, owns_baseP HOW.out HB4.out.size, bl2 HB4.out HB.out⟩
end Bw
end Go.Proofs.YtlnkhlifkooohaaGreatDoor
namespace Go.Proofs.YtlnkhlifkooohaaGreatDoor
open Go.ChangeShapes Go.WideShapes Go.ChangeAt Go.RowKit
namespace Bw
open Sm
abbrev DV := DataW Value
def kyL (nm : ByteArray) : Lit := .string nm.data.toList
theorem kyL_inj {a b : ByteArray} (h : kyL a = kyL b) : a = b := by
  unfold kyL at h
  have h1 : a.data.toList = b.data.toList := by injection h
  have h2 : a.data = b.data := Array.toList_inj.1 h1
  cases a; cases b; simp only at h2; rw [h2]
theorem kyL_ne {a b : ByteArray} (h : a ≠ b) : kyL a ≠ kyL b := fun e => h (kyL_inj e)
theorem kyL_key (a : ByteArray) : WideAt.IsKeyLit (kyL a) := trivial
def rdVal (r : Rd) : Value := .agg #[.string r.nm, .int .i64 r.num, .int .i64 r.den]
theorem rdVal_inj {a b : Rd} (h : rdVal a = rdVal b) : a = b := by
  unfold rdVal at h
  simp only [Value.agg.injEq] at h
  have h1 := congrArg Array.toList h
  simp only [List.cons.injEq, Value.string.injEq, Value.int.injEq, true_and, and_true] at h1
  obtain ⟨h2, h3, h4⟩ := h1
  cases a; cases b; simp only at h2 h3 h4; rw [h2, h3, h4]
def nR : Rd := ⟨⟨#[]⟩, 0, 0⟩
def rdAt (l : List Rd) (i : Nat) : Rd := l.getD i nR
theorem rdAt_append {l : List Rd} {r : Rd} {i : Nat} (h : i < l.length) : rdAt (l ++ [r]) i = rdAt l i := by
  unfold rdAt
  simp [List.getD, List.getElem?_append_left h]
theorem rdAt_last (l : List Rd) (r : Rd) : rdAt (l ++ [r]) l.length = r := by
  unfold rdAt
  simp [List.getD]
/-- no two have one name -/
def NoTwo (l : List Rd) : Prop := ∀ i j, i < j → j < l.length → (rdAt l i).nm ≠ (rdAt l j).nm
/-- a map that was filled from a list -/
structure Told (D : DV) (l : List Rd) : Prop where
  tidy : Maps.Tidy D
  has : ∀ nm, Maps.has D (kyL nm) = true ↔ ∃ i, i < l.length ∧ (rdAt l i).nm = nm
  val : ∀ i, i < l.length → (∀ j, i < j → j < l.length → (rdAt l i).nm ≠ (rdAt l j).nm) → ∀ z, D.atKey (kyL (rdAt l i).nm) z = .held (rdVal (rdAt l i))
  le : Maps.size D ≤ l.length
  eq : Maps.size D = l.length ↔ NoTwo l
theorem Told.nil : Told (.map []) [] :=
  ⟨Maps.tidy_empty, fun nm => ⟨fun h => (by cases h), fun ⟨i, hi, _⟩ => absurd hi (Nat.not_lt_zero _)⟩, fun i hi => absurd hi (Nat.not_lt_zero _), Nat.le_refl _, ⟨fun _ i j _ hj => absurd hj (Nat.not_lt_zero _), fun _ => rfl⟩⟩
theorem Told.snoc {D : DV} {l : List Rd} (h : Told D l) (r : Rd) : Told (D.put (kyL r.nm) (.held (rdVal r))) (l ++ [r]) := by
  have hL : (l ++ [r]).length = l.length + 1 := by simp
  have hm := h.tidy.isMap
  have hhas : ∀ nm, Maps.has (D.put (kyL r.nm) (.held (rdVal r))) (kyL nm) = true ↔ ∃ i, i < (l ++ [r]).length ∧ (rdAt (l ++ [r]) i).nm = nm := by
    intro nm
    by_cases e : nm = r.nm
    · subst e
      rw [Maps.has_put_same hm (kyL_key _)]
      exact ⟨fun _ => ⟨l.length, by omega, by rw [rdAt_last]⟩, fun _ => rfl⟩
    · rw [Maps.has_put_other (kyL_ne e), h.has]
      constructor
      · rintro ⟨i, hi, rfl⟩
        exact ⟨i, by omega, by rw [rdAt_append hi]⟩
      · rintro ⟨i, hi, he⟩
        by_cases e2 : i = l.length
        · subst e2; rw [rdAt_last] at he; exact absurd he.symm e
        · have hi' : i < l.length := by omega
          rw [rdAt_append hi'] at he
          exact ⟨i, hi', he⟩
  have hsz := Maps.size_put (k := kyL r.nm) h.tidy (DataW.held (rdVal r))
  refine ⟨h.tidy.put (kyL_key _) _, hhas, ?_, ?_, ?_⟩
  · intro i hi hno z
    by_cases e : i = l.length
    · subst e
      rw [rdAt_last]
      exact Maps.atKey_put_same hm (kyL_key _) _ _
    · have hi' : i < l.length := by omega
      have h1 := hno l.length (by omega) (by omega)
      rw [rdAt_last, rdAt_append hi'] at h1
      rw [rdAt_append hi', Maps.atKey_put_other (kyL_ne h1)]
      refine h.val i hi' (fun j hj hj2 => ?_) z
      have h2 := hno j hj (by omega)
      rw [rdAt_append hi', rdAt_append hj2] at h2
      exact h2
  · rw [hsz, hL]
    have := h.le
    split <;> omega
  · rw [hsz, hL]
    cases hq : Maps.has D (kyL r.nm) with
    | true =>
      simp only [if_true]
      obtain ⟨i, hi, he⟩ := (h.has r.nm).1 hq
      constructor
      · intro e; have := h.le; omega
      · intro hn
        have := hn i l.length hi (by omega)
        rw [rdAt_append hi, rdAt_last] at this
        exact absurd he this
    | false =>
      simp only [Bool.false_eq_true, if_false]
      constructor
      · intro e
        have hn := h.eq.1 (by omega)
        intro i j hij hj
        by_cases e2 : j = l.length
        · subst e2
          rw [rdAt_append hij, rdAt_last]
          intro e3
          rw [(h.has r.nm).2 ⟨i, hij, e3⟩] at hq
          cases hq
        · have hj' : j < l.length := by omega
          rw [rdAt_append (by omega), rdAt_append hj']
          exact hn i j hij hj'
      · intro hn
        have : NoTwo l := fun i j hij hj => by
          have := hn i j hij (by omega)
          rw [rdAt_append (by omega), rdAt_append hj] at this
          exact this
        have := h.eq.2 this
        omega
/-- which is the first of a name -/
def findR (l : List Rd) (nm : ByteArray) : Option Rd := l.find? (fun r => decide (r.nm = nm))
theorem findR_some {l : List Rd} {nm : ByteArray} {r : Rd} (h : findR l nm = some r) : ∃ i, i < l.length ∧ rdAt l i = r ∧ r.nm = nm := by
  unfold findR at h
  have h1 := List.mem_of_find?_eq_some h
  have h2 := List.find?_some h
  obtain ⟨i, hi, rfl⟩ := List.getElem_of_mem h1
  exact ⟨i, hi, by unfold rdAt; simp [List.getD, hi], by simpa using h2⟩
theorem findR_none {l : List Rd} {nm : ByteArray} (h : findR l nm = none) : ∀ i, i < l.length → (rdAt l i).nm ≠ nm := by
  unfold findR at h
  intro i hi
  have := List.find?_eq_none.1 h l[i] (List.getElem_mem hi)
  unfold rdAt
  simpa [List.getD, hi] using this
/-- a map from which some names are taken out again -/
structure Left (D : DV) (l : List Rd) (used : List ByteArray) : Prop where
  tidy : Maps.Tidy D
  none : ∀ nm, findR l nm = none → Maps.has D (kyL nm) = false
  some : ∀ nm r, findR l nm = .some r → nm ∉ used → Maps.has D (kyL nm) = true ∧ ∀ z, D.atKey (kyL nm) z = .held (rdVal r)
  size : Maps.size D + used.length = l.length
theorem Told.left {D : DV} {l : List Rd} (h : Told D l) (hn : NoTwo l) : Left D l [] := by
  refine ⟨h.tidy, fun nm hf => ?_, fun nm r hf _ => ?_, by simpa using h.eq.2 hn⟩
  · cases hq : Maps.has D (kyL nm) with
    | false => rfl
    | true =>
      obtain ⟨i, hi, he⟩ := (h.has nm).1 hq
      exact absurd he (findR_none hf i hi)
  · obtain ⟨i, hi, e1, e2⟩ := findR_some hf
    subst e2
    refine ⟨(h.has _).2 ⟨i, hi, by rw [e1]⟩, fun z => ?_⟩
    have := h.val i hi (fun j hj hj2 => hn i j hj hj2) z
    rw [e1] at this
    exact this
theorem Left.take {D : DV} {l : List Rd} {used : List ByteArray} (h : Left D l used) {nm : ByteArray} {r : Rd} (hf : findR l nm = .some r) (hu : nm ∉ used) : Left (D.del (kyL nm)) l (used ++ [nm]) := by
  refine ⟨h.tidy.del _, fun x hx => ?_, fun x y hx hy => ?_, ?_⟩
  · have : x ≠ nm := fun e => by subst e; rw [hx] at hf; cases hf
    rw [Maps.has_del_other (kyL_ne this)]
    exact h.none x hx
  · have h1 : x ∉ used := fun e => hy (List.mem_append_left _ e)
    have h2 : x ≠ nm := fun e => hy (by rw [e]; simp)
    rw [Maps.has_del_other (kyL_ne h2)]
    refine ⟨(h.some x y hx h1).1, fun z => ?_⟩
    rw [Maps.atKey_del_other (kyL_ne h2)]
    exact (h.some x y hx h1).2 z
  · have h1 := Maps.size_del (k := kyL nm) h.tidy
    rw [if_pos (h.some nm r hf hu).1] at h1
    have h2 := h.size
    simp only [List.length_append, List.length_cons, List.length_nil]
    omega
end Bw
end Go.Proofs.YtlnkhlifkooohaaGreatDoor
namespace Go.Proofs.YtlnkhlifkooohaaGreatDoor
open Go.ChangeShapes Go.WideShapes Go.ChangeAt Go.RowKit
namespace Bw
open Sm
/-- how an element of the map reads: as itself -/
def RV (v : Value) : Option (DataW Value × List MemPlace) := some (.held v, [])
/-- block b is a map of readings -/
def MapIs (w : World) (b n : Nat) (D : DV) : Prop := w.ownsMap Tryz.prog 9 RV b n D
theorem str_law : Maps.Keyed Tryz.prog 9 := Maps.string_keyed Tryz.underlying9
theorem key_is {s : ByteArray} (h : s.size ≤ maxLen) : keyOf Tryz.prog 9 (.string s) = some (kyL s) := WideMaps.keyOf_string_mk Tryz.underlying9 h
theorem zero_rd (w : World) : (zeroValue 44).run Tryz.prog w = .ok (.agg #[.string ⟨#[]⟩, .int .i64 0, .int .i64 0]) w := by kernel_rfl
theorem MapIs.kept {w w' : World} {b n : Nat} {D : DV} (h : MapIs w b n D) (hb : Below w.heap.size w w') : MapIs w' b n D :=
  World.ownsMap.kept h (row := none) ⟨hb.os, hb.tape, hb.output, hb.size, fun k hk _ => hb.block k hk⟩ (by simp)
/-- a row of readings of one's own is a row -/
theorem rdsC_len : ∀ l : List Rd, (rdsC l).length = l.length * 3
  | [] => rfl
  | x :: l => by rw [show x :: l = [x] ++ l from rfl, rdsC_append, List.length_append, rdsC_len l, rdsC_one]; simp; omega
theorem rdsC_cons (x : Rd) (l : List Rd) : rdsC (x :: l) = rdCl x ++ rdsC l := by simp [rdsC]
theorem rdsC_at : ∀ (l : List Rd) (i : Nat) (hi : i < l.length) (k : Nat), k < 3 → (rdsC l)[i * 3 + k]? = (rdCl l[i])[k]?
  | [], i, hi, _, _ => absurd hi (Nat.not_lt_zero _)
  | x :: l, 0, _, k, hk => by
    rw [rdsC_cons, List.getElem?_append_left (by simp [rdCl]; omega)]
    simp
  | x :: l, i + 1, hi, k, hk => by
    have := rdsC_at l i (by simpa using hi) k hk
    rw [rdsC_cons, List.getElem?_append_right (by simp [rdCl]; omega)]
    rw [show (i + 1) * 3 + k - (rdCl x).length = i * 3 + k by simp [rdCl]; omega, this]
    simp
theorem rds_own {w : World} {base : Nat} {u : Value} {l : List Rd} (h : w.ownsRow base 44 3 u l.length (rdsC l)) : ∃ a c, u = .slice a l.length c ∧ IsRds w a l.length c l := by
  have h0 := h
  obtain ⟨hl, h2⟩ := h
  rcases h2 with ⟨h3, h4⟩ | ⟨g', cap, cur, hv, hg, hh, hc, hm, hsz, htk⟩
  · refine ⟨none, 0, ?_, ?_⟩
    · rw [h3, h4]
    · exact ⟨rfl, by omega, Nat.zero_le _, fun _ => h4, fun _ e => by cases e⟩
  · refine ⟨some ⟨g', 0, none⟩, cap, hv, rfl, hc, hm, (fun e => by cases e), fun x hx i hi k hk => ?_⟩
    cases hx
    have h5 : i * 3 + k < (rdsC l).length := by rw [rdsC_len]; omega
    have h6 := rdsC_at l i hi k hk
    rw [← h6, List.getElem?_eq_getElem h5]
    subst hv
    exact h0.cells rfl _ _ (List.getElem?_eq_getElem h5)
set_option maxHeartbeats 8000000 in
set_option maxRecDepth 100000 in
theorem byName_any (a : Option Addr) (n c : Nat) (l : List Rd) (w : World) (hF : IsRds w a n c l) (hn : ∀ r ∈ l, r.nm.size ≤ maxLen) :
    Calls Tryz.prog 28 #[.slice a n c] w fun e w' => e = .returned (.map (some w.heap.size)) ∧ (∃ D, MapIs w' w.heap.size n D ∧ Told D l) ∧ Below w.heap.size w w' := by
  have hmm := @run_makeMap Tryz.prog
  have hlen := hF.len
  have hnm : n ≤ maxLen := Nat.le_trans hF.le hF.max
  have hn63 : (n : Int) ≤ 9223372036854775807 := by unfold maxLen at hnm; omega
  have HF := Hid.mk hF
  have HN : Hid (∀ k, k < n → (l.getD k noR).nm.size ≤ maxLen) := Hid.mk (fun k hk => hn _ (by
    rw [getD_at (by omega)]
    exact List.getElem_mem _))
  have HT : Hid (∀ k, k < n → l.take (k + 1) = l.take k ++ [l.getD k noR]) := Hid.mk (fun k hk => by
    rw [List.take_succ_eq_append_getElem (by omega), getD_at (by omega)])
  have HTA : Hid (l.take n = l) := Hid.mk (by rw [← hlen]; exact List.take_length)
  have HNM := Hid.mk hnm
  clear hF hn hlen hnm
  go_enter Tryz.func28, Tryz.ntmps28
  go_wp2_with fail
  go_loopw [9] (fun i wr => ∃ k : Nat, k ≤ n ∧ i = .int .i64 k ∧ Hid (∃ D, MapIs wr w.heap.size k D ∧ Told D (l.take k)) ∧ Hid (Below w.heap.size w wr)) (fun i _ => n - (intOf i).toNat)
  case atStart => exact ⟨0, Nat.zero_le _, rfl, Hid.mk ⟨_, World.ownsMap_made _ _ _ _, Told.nil⟩, Hid.mk ((Below.refl _ _).alloc (Nat.le_refl _) _)⟩
  case round =>
    obtain ⟨k, hk, rfl, HM, HB⟩ := hrel
    by_cases hlt : k < n
    · have hlt' : (k : Int) < (n : Int) := by omega
      obtain ⟨x, hx⟩ := HF.out.some hlt
      subst hx
      obtain ⟨c0, c1, c2⟩ := (HF.out.kept HB.out).at hlt
      have HTk := Hid.mk (HT.out k hlt)
      have HNk := Hid.mk (HN.out k hlt)
      obtain ⟨D, hD, hTold⟩ := HM.out
      generalize l.getD k noR = r at *
      obtain ⟨nm, num, den⟩ := r
      simp only at c0 c1 c2 HTk HNk
      have HAL := Hid.mk (awB1 wr (.cells #[.string nm, .int .i64 num, .int .i64 den] 44))
      have HD := Hid.mk (hD.kept HAL.out)
      have HTO := Hid.mk (hTold.snoc ⟨nm, num, den⟩)
      have HKM : Hid (k < maxLen) := Hid.mk (Nat.lt_of_lt_of_le hlt HNM.out)
      clear hD hTold HM
      go_wp2_with (at_mapUpdate; refine wpList_mapUpdate_own _ rfl _ _ _ 61 rfl 9 44 str_law Tryz.underlying61 RV w.heap.size k D rfl HD.out HKM.out _ _ (kyL nm) rfl rfl (key_is HNk.out) _ [] rfl ?_; intro w1 hown1 hgrow1; have HO1 := Hid.mk hown1; have HG1 := Hid.mk hgrow1; clear hown1 hgrow1)
      go_roundw
      case rel =>
        refine ⟨k + 1, by omega, by go_num, Hid.mk ⟨_, HO1.out, by rw [HTk.out]; exact HTO.out⟩, Hid.mk ?_⟩
        exact (bl2 HB.out HAL.out).grown HG1.out (bl2 HB.out HAL.out).size (fun j hj => by cases hj; exact Nat.le_refl _)
      case measure => simp [intOf]; omega
    · have e : k = n := by omega
      subst e
      go_wp2_with fail
      go_ret
      refine ⟨rfl, ?_, HB.out⟩
      have := HM.out
      rw [HTA.out] at this
      exact this
end Bw
end Go.Proofs.YtlnkhlifkooohaaGreatDoor
namespace Go.Proofs.YtlnkhlifkooohaaGreatDoor
open Go.ChangeShapes Go.WideShapes Go.ChangeAt Go.RowKit
namespace Bw
open Sm
/-- every cell stands -/
def CK (w w' : World) : Prop := ∀ a v, w.cell? a = some v → w'.cell? a = some v
theorem CK.refl (w : World) : CK w w := fun _ _ h => h
theorem CK.trans {a b c : World} (h : CK a b) (h' : CK b c) : CK a c := fun x v hx => h' x v (h x v hx)
theorem CK.below {w w' : World} (h : Below w.heap.size w w') : CK w w' := fun _ _ hx => cell_kept h hx
theorem SgAt.keptC {w w' : World} {g : Nat} {s : Sig} (h : SgAt w g s) (hb : CK w w') : SgAt w' g s :=
  ⟨hb _ _ h.c0, hb _ _ h.c1, hb _ _ h.c2, hb _ _ h.c3, hb _ _ h.c4, hb _ _ h.c5, hb _ _ h.c6, hb _ _ h.c7, hb _ _ h.c8⟩
theorem MsAt.keptC {w w' : World} {g : Nat} {v : MsV} (h : MsAt w g v) (hb : CK w w') : MsAt w' g v :=
  ⟨hb _ _ h.c0, hb _ _ h.c1, hb _ _ h.c2, hb _ _ h.c3, hb _ _ h.c4, hb _ _ h.c5⟩
theorem IsSigs.keptC {w w' : World} {a : Option Addr} {n cap : Nat} {l : List Sig} (h : IsSigs w a n cap l) (hb : CK w w') : IsSigs w' a n cap l :=
  ⟨h.len, h.le, h.max, h.none, fun x hx i hi k hk => by
    have h1 := h.cell x hx i hi k hk
    have h2 : k < (sgCl l[i]).length := hk
    rw [List.getElem?_eq_getElem h2] at h1 ⊢
    exact hb _ _ h1⟩
theorem IsRds.keptC {w w' : World} {a : Option Addr} {n cap : Nat} {l : List Rd} (h : IsRds w a n cap l) (hb : CK w w') : IsRds w' a n cap l :=
  ⟨h.len, h.le, h.max, h.none, fun x hx i hi k hk => by
    have h1 := h.cell x hx i hi k hk
    have h2 : k < (rdCl l[i]).length := hk
    rw [List.getElem?_eq_getElem h2] at h1 ⊢
    exact hb _ _ h1⟩
theorem MsIn.keptC {w w' : World} {v : MsV} (h : MsIn w v) (hb : CK w w') : MsIn w' v := ⟨h.nm, h.row.keptC hb, h.wf⟩
theorem bytesC {w w' : World} {a : Option Addr} {len cap : Nat} {l : List UInt8} (h : IsBytes w a len cap l) (hb : CK w w') : IsBytes w' a len cap l :=
  ⟨h.1, h.2.1, h.2.2.1, h.2.2.2.1, fun x hx i hi => hb _ _ (h.2.2.2.2 x hx i hi)⟩
/-- nothing but the map in block bm has turned -/
structure GM (bm : Nat) (w w' : World) : Prop where
  grown : w.grownBy w' (some bm)
  map : ∃ es cl, w.heap[bm]? = some (.map es cl)
theorem GM.ck {bm : Nat} {w w' : World} (h : GM bm w w') : CK w w' := fun a v hv => h.grown.cell hv (fun e => by
  obtain ⟨es, cl, hm⟩ := h.map
  have e1 : a.block = bm := by simpa using e
  subst e1
  simp [World.cell?, hm] at hv)
theorem GM.trans {bm : Nat} {a b c : World} (h : GM bm a b) (h' : GM bm b c) : GM bm a c :=
  ⟨⟨h'.grown.os.trans h.grown.os, h'.grown.tape.trans h.grown.tape, h'.grown.output.trans h.grown.output, Nat.le_trans h.grown.size h'.grown.size, fun k hk hne => (h'.grown.block k (Nat.lt_of_lt_of_le hk h.grown.size) hne).trans (h.grown.block k hk hne)⟩, h.map⟩
theorem GM.below {bm : Nat} {w w' : World} (hm : ∃ es cl, w.heap[bm]? = some (.map es cl)) (h : Below w.heap.size w w') : GM bm w w' :=
  ⟨⟨h.os, h.tape, h.output, h.size, fun k hk _ => h.block k hk⟩, hm⟩
theorem MapIs.map {w : World} {b n : Nat} {D : DV} (h : MapIs w b n D) : ∃ es cl, w.heap[b]? = some (.map es cl) := by
  obtain ⟨es, cl, hb, _⟩ := h
  exact ⟨es, cl, hb⟩
theorem MapIs.mapB {w w' : World} {b n : Nat} {D : DV} (h : MapIs w b n D) (hb : Below w.heap.size w w') : ∃ es cl, w'.heap[b]? = some (.map es cl) := (h.kept hb).map
/-- 'r, ok := m[k]' of a map of readings: what it gives is written out -/
theorem wpList_lookup_rd (w : World) {ops : Array Oper} {rest : List Oper} {o : Oper} {a : Act} {Q : Exit → Act → World → Prop} (hg : o.guard = none) (m x : Operand) (hop : o.op = Op.lookup 61 m x true)
    (b n : Nat) (D : DV) (hm : a.eval m = .map (some b)) (hown : MapIs w b n D) (key : Value) (kl : Lit) (hx : a.eval x = key) (hkey : keyOf Tryz.prog 9 key = some kl)
    (u : Value) (hb : Bool) (hu : D.atKey kl (.held (.agg #[.string ⟨#[]⟩, .int .i64 0, .int .i64 0])) = .held u) (hh : Maps.has D kl = hb)
    (hK : wpList Tryz.prog ops Q rest (a.put o.dst (.tuple #[u, .bool hb])) w) : wpList Tryz.prog ops Q (o :: rest) a w :=
  wpList_lookup_own_ok w hg m x 61 hop 9 44 str_law Tryz.underlying61 RV (zero_rd w) (.held (.agg #[.string ⟨#[]⟩, .int .i64 0, .int .i64 0])) [] rfl b n D hm hown key kl hx hkey (fun v ps hv => by
    rw [hu] at hv
    unfold RV at hv
    simp only [Option.some.injEq, Prod.mk.injEq, DataW.held.injEq] at hv
    rw [hv.1, hh]
    exact hK)
def wrD (s : Sig) (d : List UInt8) (num den : Int) : List UInt8 := wrS s s.st.toNat s.sz.toNat d (rawV s num den)
def rwE (s : Sig) (num den : Int) : Int := rawE s s.sz.toNat num den
theorem wrD_len (s : Sig) (d : List UInt8) (num den : Int) : (wrD s d num den).length = d.length := wrK_length _ _ _ _
theorem isBytes_ownM {w : World} {base g n c : Nat} {l : List UInt8} (h : w.ownsRow base 5 1 (.slice (some ⟨g, 0, none⟩) n c) n (cellsOf l)) : IsBytes w (some ⟨g, 0, none⟩) n c l := by
  have h0 := h
  obtain ⟨hl, h2⟩ := h
  have hn : l.length = n := by simpa [cellsOf] using hl
  rcases h2 with ⟨h3, _⟩ | ⟨g', cap, cur, hv, hg, hh, hc, hm, hsz, htk⟩
  · cases h3
  · cases hv
    refine ⟨hn, hc, hm, (fun h => by cases h), fun x hx i hi => ?_⟩
    cases hx
    exact h0.cells rfl i _ (by simp [cellsOf, hn, hi])
/-- signal.Write of a right signal -/
theorem swrite_is (s : Sig) (a : Option Addr) (len cap : Nat) (l : List UInt8) (num den : Int) (w : World) (h : wfS s) (hD : IsBytes w a len cap l) (hE : chkS s len = 0) :
    Calls Tryz.prog 31 #[sgV s, .slice a len cap, .int .i64 num, .int .i64 den] w fun e w' => Below w.heap.size w w' ∧
      ((rwE s num den ≠ 0 ∧ e = .returned (.tuple #[.slice none 0 0, .int .i64 (rwE s num den)])) ∨
       (rwE s num den = 0 ∧ ∃ a' c, e = .returned (.tuple #[.slice a' len c, .int .i64 0]) ∧ IsBytes w' a' len c (wrD s l num den))) := by
  obtain ⟨st, sz, hR⟩ := right_of hE
  have e1 : rwE s num den = rawE s sz num den := by unfold rwE; rw [hR.hsz, Int.toNat_natCast]
  have e2 : wrD s l num den = wrS s st sz l (rawV s num den) := by unfold wrD; rw [hR.hst, hR.hsz, Int.toNat_natCast, Int.toNat_natCast]
  rw [e1, e2]
  by_cases hX : rawE s sz num den = 0
  · refine (swrite_ok s st sz a len cap l num den w h hD hE hR hX).mono ?_
    rintro e w' ⟨g, c, h1, h2, h3⟩
    exact ⟨h3, .inr ⟨hX, _, c, h1, isBytes_ownM h2⟩⟩
  · refine (swrite_raw s st sz a len cap num den w h hE hR hX).mono ?_
    rintro e w' ⟨h1, h2⟩
    exact ⟨h2, .inl ⟨hX, h1⟩⟩
/-- what Write's own way of putting a signal does -/
def putW (l : List Rd) (s : Sig) (d : List UInt8) : Int × List UInt8 :=
  match findR l s.nm with
  | none => (14, [])
  | some r => if rwE s r.num r.den = 0 then (0, wrD s d r.num r.den) else (rwE s r.num r.den, [])
/-- the variable told holds the map, from which the names 'used' are taken out -/
def WrI (l : List Rd) (g bm : Nat) (w : World) (used : List ByteArray) : Prop := w.cell? ⟨g, 0, none⟩ = some (.map (some bm)) ∧ ∃ n D, MapIs w bm n D ∧ Left D l used
theorem WrI.kept {l : List Rd} {g bm : Nat} {w w' : World} {used : List ByteArray} (h : WrI l g bm w used) (hb : Below w.heap.size w w') : WrI l g bm w' used := by
  obtain ⟨h1, n, D, h2, h3⟩ := h
  exact ⟨cell_kept hb h1, n, D, h2.kept hb, h3⟩
theorem put_box (w : World) (s : Sig) (nm : ByteArray) (n d : Int) : Below w.heap.size w ((w.alloc (sgC s)).alloc (.cells #[.string nm, .int .i64 n, .int .i64 d] 44)) := ((Below.refl _ _).alloc (Nat.le_refl _) _).alloc (by simp) _
theorem put_rd (w : World) (s : Sig) (nm : ByteArray) (n d : Int) : ((w.alloc (sgC s)).alloc (.cells #[.string nm, .int .i64 n, .int .i64 d] 44)).cell? ⟨w.heap.size + 1, 1, none⟩ = some (.int .i64 n) ∧ ((w.alloc (sgC s)).alloc (.cells #[.string nm, .int .i64 n, .int .i64 d] 44)).cell? ⟨w.heap.size + 1, 2, none⟩ = some (.int .i64 d) := by
  have h := rd_cells (w.alloc (sgC s)) nm n d
  rw [show (w.alloc (sgC s)).heap.size = w.heap.size + 1 by simp] at h
  exact ⟨h.2.1, h.2.2⟩
/-- what a way of putting a signal answers -/
def PutP (p : Int × List UInt8) (Iv : World → Prop) (bm len : Nat) (w : World) (e : Ending) (w' : World) : Prop :=
  Hid (GM bm w w') ∧ ((∃ u, e = .returned (.tuple #[u, .int .i64 p.1]) ∧ (p.1 != 0) = true) ∨ (∃ a' c, e = .returned (.tuple #[.slice a' len c, .int .i64 0]) ∧ Hid (p.1 = 0 ∧ IsBytes w' a' len c p.2 ∧ Iv w')))
set_option maxHeartbeats 8000000 in
set_option maxRecDepth 100000 in
theorem putW_any (l : List Rd) (s : Sig) (g bm : Nat) (used : List ByteArray) (a : Option Addr) (len cap : Nat) (d : List UInt8) (w : World) (hI : WrI l g bm w used) (h : wfS s) (hnm : s.nm.size ≤ maxLen) (hu : s.nm ∉ used) (hD : IsBytes w a len cap d) (hE : chkS s len = 0) :
    Calls Tryz.prog 30 #[sgV s, .slice a len cap, .pointer (some ⟨g, 0, none⟩)] w fun e w' => PutP (putW l s d) (fun w' => WrI l g bm w' (used ++ [s.nm])) bm len w e w' := by
  obtain ⟨hg, n, D, hM, hL⟩ := hI
  have HBX := Hid.mk (sg_box w s)
  have HSA := Hid.mk (SgAt.box w s)
  have hg1 := cell_kept HBX.out hg
  have HM1 := Hid.mk (hM.kept HBX.out)
  have HMB := Hid.mk hM.map
  have HKEY := Hid.mk (key_is hnm)
  have HG := Hid.mk hg
  cases hf : findR l s.nm with
  | none =>
    have hp : putW l s d = (14, []) := by unfold putW; rw [hf]
    rw [hp]
    have HH := Hid.mk (hL.none s.nm hf)
    have HU := Hid.mk (Maps.atKey_of_not_has (hL.none s.nm hf) (DataW.held (.agg #[.string ⟨#[]⟩, .int .i64 0, .int .i64 0] : Value)))
    have HB2 := Hid.mk (put_box w s ⟨#[]⟩ 0 0)
    clear hp hg hM hL h hnm hu hD hE hf
    obtain ⟨nm, st, sz, bk, sg, mu, di, ad, ky⟩ := s
    unfold sgC at HBX HSA hg1 HM1 HB2
    unfold sgV
    simp only at HBX HSA hg1 HM1 HB2 HKEY HH HU ⊢
    go_enter Tryz.func30, Tryz.ntmps30
    go_wp2_with (at_lookup; refine wpList_lookup_rd _ rfl _ _ rfl bm n D rfl HM1.out _ _ rfl HKEY.out _ _ HU.out HH.out ?_)
    go_ret2
    exact ⟨Hid.mk (GM.below HMB.out HB2.out), .inl ⟨_, rfl, by decide⟩⟩
  | some r =>
    have hhas := hL.some s.nm r hf hu
    have hT := hL.take hf hu
    have hp : putW l s d = if rwE s r.num r.den = 0 then (0, wrD s d r.num r.den) else (rwE s r.num r.den, []) := by unfold putW; rw [hf]
    have HP := Hid.mk hp
    have HH := Hid.mk hhas.1
    have HU := Hid.mk (hhas.2 (DataW.held (.agg #[.string ⟨#[]⟩, .int .i64 0, .int .i64 0] : Value)))
    have HB2 := Hid.mk (put_box w s r.nm r.num r.den)
    have HRC := Hid.mk (put_rd w s r.nm r.num r.den)
    have HM2 := Hid.mk (hM.kept HB2.out)
    have hg2 := cell_kept HB2.out hg
    have HSA2 := Hid.mk (HSA.out.kept (awB1 _ (.cells #[.string r.nm, .int .i64 r.num, .int .i64 r.den] 44)))
    have HT := Hid.mk hT
    have HDD := Hid.mk (bytesC hD (CK.below HB2.out))
    have HW := Hid.mk (fun W (hb : IsBytes W a len cap d) => swrite_is s a len cap d r.num r.den W h hb hE)
    clear hp hg hM hL h hnm hu hD hE hf hhas hT
    generalize putW l s d = PW at *
    generalize rwE s r.num r.den = RE at *
    generalize wrD s d r.num r.den = WD at *
    obtain ⟨nm, st, sz, bk, sg, mu, di, ad, ky⟩ := s
    obtain ⟨rnm, rnum, rden⟩ := r
    unfold rdVal at HU
    unfold sgC at HBX HSA hg1 HM1 HB2 HRC HM2 hg2 HSA2 HDD
    unfold sgV at HW ⊢
    simp only at HBX HSA hg1 HM1 HB2 HKEY HH HU HRC HM2 hg2 HSA2 HDD HT HW ⊢
    go_enter Tryz.func30, Tryz.ntmps30
    go_wp2_with (first | (at_lookup; refine wpList_lookup_rd _ rfl _ _ rfl bm n D rfl HM1.out _ _ rfl HKEY.out _ _ HU.out HH.out ?_) | (at_delete; refine wpList_delete_own _ rfl _ _ 61 9 rfl 44 str_law Tryz.underlying61 RV bm n D rfl HM2.out _ _ rfl HKEY.out ?_; intro w1 hown1 hturn1; have HO1 := Hid.mk hown1; have HG1 := Hid.mk (show GM bm _ w1 from ⟨hturn1.grown, HM2.out.map⟩); obtain ⟨s0, s1, s2, s3, s4, s5, s6, s7, s8⟩ := HSA2.out.keptC HG1.out.ck; have r1 := HG1.out.ck _ _ HRC.out.1; have r2 := HG1.out.ck _ _ HRC.out.2; have HGG := Hid.mk (HG1.out.ck _ _ hg2); have HD1 := Hid.mk (bytesC HDD.out HG1.out.ck); clear hown1 hturn1; simp only at s0 s1 s2 s3 s4 s5 s6 s7 s8))
    refine (HW.out _ HD1.out).mono ?_
    rintro e w2 ⟨hb2, hcase⟩
    have HGM := Hid.mk ((GM.below HMB.out HB2.out).trans (HG1.out.trans (GM.below (MapIs.map HO1.out) hb2)))
    rcases hcase with ⟨hne, rfl⟩ | ⟨hz, a', c, rfl, hB'⟩
    · have HNE := Hid.mk hne
      clear hne hb2
      go_wp2_with fail
      go_ret2
      refine ⟨HGM, .inl ?_⟩
      rw [HP.out, if_neg HNE.out]
      exact ⟨_, rfl, by simpa using HNE.out⟩
    · have HZ := Hid.mk hz
      have HB' := Hid.mk hB'
      have HWI : Hid (WrI l g bm w2 (used ++ [nm])) := Hid.mk ⟨cell_kept hb2 HGG.out, n, _, MapIs.kept HO1.out hb2, HT.out⟩
      clear hz hb2 hB'
      go_wp2_with fail
      go_ret2
      refine ⟨HGM, .inr ?_⟩
      rw [HP.out, if_pos HZ.out]
      exact ⟨_, _, rfl, Hid.mk ⟨rfl, HB'.out, HWI.out⟩⟩
end Bw
end Go.Proofs.YtlnkhlifkooohaaGreatDoor
namespace Go.Proofs.YtlnkhlifkooohaaGreatDoor
open Go.ChangeShapes Go.WideShapes Go.ChangeAt Go.RowKit
namespace Bw
open Sm
abbrev PutF := Sig → List UInt8 → Int × List UInt8
def goE (put : PutF) : List Sig → List UInt8 → Int × List UInt8
  | [], d => (0, d)
  | s :: r, d => if (put s d).1 = 0 then goE put r (put s d).2 else ((put s d).1, [])
theorem goE_snoc {put : PutF} {s : Sig} : ∀ {l : List Sig} {d d' : List UInt8}, goE put l d = (0, d') → (put s d').1 = 0 → goE put (l ++ [s]) d = (0, (put s d').2)
  | [], d, d', h, hs => by
    have e : d = d' := by simpa [goE] using h
    subst e
    show goE put [s] d = _
    simp only [goE, if_pos hs]
  | x :: r, d, d', h, hs => by
    by_cases hx : (put x d).1 = 0
    · simp only [goE, if_pos hx] at h
      rw [List.cons_append]
      simp only [goE, if_pos hx]
      exact goE_snoc h hs
    · simp only [goE, if_neg hx] at h
      exact absurd (congrArg Prod.fst h) hx
theorem goE_fail {put : PutF} {s : Sig} {t : List Sig} : ∀ {l : List Sig} {d d' : List UInt8}, goE put l d = (0, d') → (put s d').1 ≠ 0 → goE put (l ++ s :: t) d = ((put s d').1, [])
  | [], d, d', h, hs => by
    have e : d = d' := by simpa [goE] using h
    subst e
    show goE put (s :: t) d = _
    simp only [goE, if_neg hs]
  | x :: r, d, d', h, hs => by
    by_cases hx : (put x d).1 = 0
    · simp only [goE, if_pos hx] at h
      rw [List.cons_append]
      simp only [goE, if_pos hx]
      exact goE_fail h hs
    · simp only [goE, if_neg hx] at h
      exact absurd (congrArg Prod.fst h) hx
/-- the other signals that are there, of the first k -/
def othB (m : Msg) (c : Int) (i : Nat) : Bool := !((i : Int) == m.ch) && thB c (m.at i)
def othK (m : Msg) (c : Int) (k : Nat) : List Sig := ((List.range k).filter (othB m c)).map m.at
theorem othK_yes (m : Msg) (c : Int) {k : Nat} (h : othB m c k = true) : othK m c (k + 1) = othK m c k ++ [m.at k] := by
  unfold othK
  rw [List.range_succ, List.filter_append, List.map_append]
  simp [h]
theorem othK_no (m : Msg) (c : Int) {k : Nat} (h : othB m c k = false) : othK m c (k + 1) = othK m c k := by
  unfold othK
  rw [List.range_succ, List.filter_append, List.map_append]
  simp [h]
theorem othK_more (m : Msg) (c : Int) {k : Nat} (h : othB m c k = true) : ∀ {n : Nat}, k < n → ∃ t, othK m c n = othK m c k ++ m.at k :: t
  | 0, hn => absurd hn (Nat.not_lt_zero _)
  | n + 1, hn => by
    by_cases e : n = k
    · subst e; exact ⟨[], othK_yes m c h⟩
    · obtain ⟨t, ht⟩ := othK_more m c h (n := n) (by omega)
      cases hb : othB m c n with
      | true => exact ⟨t ++ [m.at n], by rw [othK_yes m c hb, ht]; simp⟩
      | false => exact ⟨t, by rw [othK_no m c hb, ht]⟩
def zerosM (m : Msg) : List UInt8 := List.replicate m.size.toNat 0
/-- the bytes ahead of the other signals, and the error -/
def chooE (put : PutF) (m : Msg) : Int × List UInt8 := if 0 ≤ m.ch then put (m.at m.ch.toNat) (zerosM m) else (0, zerosM m)
def fillE (put : PutF) (m : Msg) : Int × List UInt8 :=
  if (chooE put m).1 = 0 then goE put (othK m (choD m (chooE put m).2) m.sigs.length) (chooE put m).2 else ((chooE put m).1, [])
def usedL (put : PutF) (m : Msg) : List ByteArray := (if 0 ≤ m.ch then [(m.at m.ch.toNat).nm] else []) ++ (othK m (choD m (chooE put m).2) m.sigs.length).map Sig.nm
/-- which names are used -/
def UsK (S : Nat → Sig) (mch : Int) (mn k : Nat) (us : List ByteArray) : Prop := ∀ x ∈ us, ∃ j, (j < k ∨ (j : Int) = mch) ∧ j < mn ∧ x = (S j).nm
theorem UsK.start {S : Nat → Sig} {mch : Int} {mn : Nat} {us : List ByteArray} (h : ∀ x ∈ us, ∃ j : Nat, (j : Int) = mch ∧ j < mn ∧ x = (S j).nm) : UsK S mch mn 0 us := fun x hx => by
  obtain ⟨j, h1, h2, h3⟩ := h x hx
  exact ⟨j, .inr h1, h2, h3⟩
theorem UsK.next {S : Nat → Sig} {mch : Int} {mn k : Nat} {us : List ByteArray} (h : UsK S mch mn k us) : UsK S mch mn (k + 1) us := fun x hx => by
  obtain ⟨j, h1, h2, h3⟩ := h x hx
  exact ⟨j, by omega, h2, h3⟩
theorem UsK.snoc {S : Nat → Sig} {mch : Int} {mn k : Nat} {us : List ByteArray} (h : UsK S mch mn k us) (hk : k < mn) : UsK S mch mn (k + 1) (us ++ [(S k).nm]) := fun x hx => by
  rw [List.mem_append] at hx
  rcases hx with hx | hx
  · exact h.next x hx
  · exact ⟨k, .inl (by omega), hk, by simpa using hx⟩
theorem UsK.free {S : Nat → Sig} {mch : Int} {mn k : Nat} {us : List ByteArray} (h : UsK S mch mn k us) (hk : k < mn) (hne : (k : Int) ≠ mch) (hap : ∀ i j, i < mn → j < mn → i ≠ j → (S i).nm ≠ (S j).nm) : (S k).nm ∉ us := fun hmem => by
  obtain ⟨j, h1, h2, h3⟩ := h _ hmem
  exact hap k j hk h2 (by intro e; subst e; rcases h1 with h1 | h1 <;> omega) h3
/-- what fill answers -/
def FillP (p : Int × List UInt8) (Iv : World → Prop) (bm len : Nat) (w : World) (e : Ending) (w' : World) : Prop :=
  GM bm w w' ∧ ((p.1 ≠ 0 ∧ e = .returned (.tuple #[.slice none 0 0, .int .i64 p.1])) ∨ (p.1 = 0 ∧ ∃ a' c, e = .returned (.tuple #[.slice a' len c, .int .i64 0]) ∧ IsBytes w' a' len c p.2 ∧ Iv w'))
theorem OkM.apart {m : Msg} (h : OkM m) {i j : Nat} (hi : i < m.sigs.length) (hj : j < m.sigs.length) (hne : i ≠ j) : (m.at i).nm ≠ (m.at j).nm := by
  rcases Nat.lt_or_ge i j with hlt | hge
  · exact (bes_parts (h.bes hj hlt)).1
  · exact fun e => (bes_parts (h.bes hi (by omega : j < i))).1 e.symm
theorem nm_small {s : Sig} {n : Int} (h : chkS s n = 0) : s.nm.size ≤ maxLen := by
  have h1 := (chk_size h).1
  unfold nameB at h1
  rw [Bool.and_eq_true, Bool.and_eq_true, Bool.and_eq_true] at h1
  have h2 : s.nm.data.toList.length ≤ 16 := by simpa using h1.1.1.2
  have h3 := sz_len s.nm
  unfold maxLen
  omega
end Bw
end Go.Proofs.YtlnkhlifkooohaaGreatDoor
namespace Go.Proofs.YtlnkhlifkooohaaGreatDoor
open Go.ChangeShapes Go.WideShapes Go.ChangeAt Go.RowKit Go.Sort
namespace Bw
open Sm
theorem info_u8M : (Tryz.prog.info? 5).map (fun i => (i.zero, i.size, i.bytes)) = some (some (.int .u8 0), 1, 1) := by kernel_rfl
theorem fl_W0 (w : World) (v : MsV) (n : Nat) : Below w.heap.size w ((w.alloc (msC v)).alloc (.cells (madeCells #[.int .u8 0] n) 5)) := ((Below.refl _ _).alloc (Nat.le_refl _) _).alloc (by simp) _
theorem fl_W0m (w : World) (v : MsV) (n : Nat) : MsAt ((w.alloc (msC v)).alloc (.cells (madeCells #[.int .u8 0] n) 5)) w.heap.size v := (MsAt.box w v).kept (awB1 _ _)
theorem fl_W0z (w : World) (v : MsV) (n : Nat) (hn : n ≤ 8) : IsBytes ((w.alloc (msC v)).alloc (.cells (madeCells #[.int .u8 0] n) 5)) (some ⟨w.heap.size + 1, 0, none⟩) n n (List.replicate n 0) := by
  have := zeros_at (w.alloc (msC v)) n (by omega)
  rw [show (w.alloc (msC v)).heap.size = w.heap.size + 1 by simp] at this
  exact this
set_option maxHeartbeats 32000000 in
set_option maxRecDepth 100000 in
theorem fill_none (g : Nat) (lb : Array Value) (eg : ∀ args w, (callFunc g args).run Tryz.prog w = .ok (.enter g args) w) (put : PutF) (Iv : World → List ByteArray → Prop) (bm : Nat) (v : MsV) (n8 : Nat) (w : World) (hM : MsIn w v) (hO : OkM v.m) (hsize : v.m.size = n8)
    (hput : ∀ W used s a c d, Iv W used → s ∈ v.m.sigs → s.nm ∉ used → IsBytes W a n8 c d → Calls Tryz.prog g (#[sgV s, .slice a n8 c] ++ lb) W (PutP (put s d) (fun w' => Iv w' (used ++ [s.nm])) bm n8 W))
    (hIv : ∀ W W' used, Iv W used → Below W.heap.size W W' → Iv W' used) (hmap : ∀ W used, Iv W used → ∃ es cl, W.heap[bm]? = some (.map es cl)) (hI : Iv w []) (hch : v.m.ch < 0) :
    Calls Tryz.prog 29 #[msV v, .func (.func g) #[] lb] w (FillP (fillE put v.m) (fun w' => Iv w' (usedL put v.m)) bm n8 w) := by
  have HBX := Hid.mk (ms_box w v)
  have HMAT := Hid.mk (MsAt.box w v)
  have HPUT := Hid.mk (fun W used k a c d (hk : k < v.n) (hI : Iv W used) (hn : (v.m.at k).nm ∉ used) (hD : IsBytes W a n8 c d) => hput W used (v.m.at k) a c d hI (v.m.mem (by rw [hM.row.len]; exact hk)) hn hD)
  have HIK := Hid.mk hIv
  have HMAP := Hid.mk hmap
  have hent := enter_there
  have hlen : v.m.sigs.length = v.n := hM.row.len
  have hn16 : v.n ≤ 16 := by have := hO.many; omega
  have hn8 : n8 ≤ 8 := by have := hO.size8; omega
  have HT := Hid.mk (fun W a c d (h : GM bm w W) (hD : IsBytes W a n8 c d) => isThere_any v a n8 c d W (hM.keptC h.ck) hD hO hsize (Nat.le_refl _) (by omega))
  have HROW := Hid.mk hM.row
  have HMA := Hid.mk hM
  have HGD : Hid (∀ i, v.m.at i = v.m.sigs.getD i noS) := Hid.mk (fun _ => rfl)
  have HAP := Hid.mk (fun i j (hi : i < v.n) (hj : j < v.n) (hne : i ≠ j) => hO.apart (by rw [hlen]; exact hi) (by rw [hlen]; exact hj) hne)
  have HYES := Hid.mk (fun c k (_ : k < v.n) (h : othB v.m c k = true) => othK_yes v.m c h)
  have HNO := Hid.mk (fun c k (_ : k < v.n) (h : othB v.m c k = false) => othK_no v.m c h)
  have HMORE := Hid.mk (fun c k (hk : k < v.n) (h : othB v.m c k = true) => othK_more v.m c h hk)
  have HOBD : Hid (∀ c k, othB v.m c k = (!((k : Int) == v.m.ch) && thB c (v.m.at k))) := Hid.mk (fun _ _ => rfl)
  have HOK0 : Hid (∀ c, othK v.m c 0 = []) := Hid.mk (fun _ => rfl)
  have hz0 : zerosM v.m = List.replicate n8 0 := by unfold zerosM; rw [hsize]; rfl
  have hmk : ∀ W : World, (Instr.makeSlice 26 (.int .i64 (n8 : Int)) (.int .i64 (n8 : Int))).run Tryz.prog W = .ok (.slice (some ⟨W.heap.size, 0, none⟩) n8 n8) (W.alloc (.cells (madeCells #[.int .u8 0] n8) 5)) := by
    intro W
    exact run_make_row' 26 5 (.int .u8 0) 1 Tryz.underlying26 info_u8M rfl .i64 .i64 n8 (by omega) (by omega) W
  have hCE : chooE put v.m = (0, List.replicate n8 0) := by unfold chooE; rw [if_neg (by omega), hz0]
  have HRES : Hid (fillE put v.m = goE put (othK v.m (choD v.m (List.replicate n8 0)) v.n) (List.replicate n8 0)) := Hid.mk (by unfold fillE; rw [hCE]; simp only [if_true]; rw [hlen])
  have HUSED : Hid (usedL put v.m = [] ++ (othK v.m (choD v.m (List.replicate n8 0)) v.n).map Sig.nm) := Hid.mk (by unfold usedL; rw [hCE, if_neg (by omega), hlen])
  have HU0 : Hid (∀ x ∈ ([] : List ByteArray), ∃ j : Nat, (j : Int) = v.m.ch ∧ j < v.n ∧ x = (v.m.at j).nm) := Hid.mk (fun x hx => by cases hx)
  have HB0 := Hid.mk (fl_W0 w v n8)
  have HGA := Hid.mk (GM.below (hmap _ _ hI) HB0.out)
  have HIA := Hid.mk (hIv _ _ _ hI HB0.out)
  have HMA4 := Hid.mk (fl_W0m w v n8)
  have HBA := Hid.mk (fl_W0z w v n8 hn8)
  obtain ⟨DA, hDA⟩ : ∃ D, D = List.replicate n8 (0 : UInt8) := ⟨_, rfl⟩
  obtain ⟨U0, hU0⟩ : ∃ U : List ByteArray, U = [] := ⟨_, rfl⟩
  rw [← hDA] at HRES HUSED HBA
  rw [← hU0] at HUSED HU0 HIA
  obtain ⟨CHO, hCHO⟩ : ∃ c, c = choD v.m DA := ⟨_, rfl⟩
  rw [← hCHO] at HRES HUSED
  have HT2 : Hid (∀ W a c d, GM bm w W → IsBytes W a n8 c d → d = DA → Calls Tryz.prog 76 #[msV v, .slice a n8 c] W fun e w' => ∃ g, e = .returned (.func (.func 125) #[] #[.pointer (some ⟨g, 0, none⟩)]) ∧ w'.cell? ⟨g, 0, none⟩ = some (.int .i64 CHO) ∧ W.heap.size ≤ g ∧ Below W.heap.size W w') := Hid.mk (fun W a c d h1 h2 h3 => by
    have := HT.out W a c d h1 h2
    rw [h3, ← hCHO] at this
    exact this)
  clear HT
  have HT : Hid (∀ W a c, GM bm w W → IsBytes W a n8 c DA → Calls Tryz.prog 76 #[msV v, .slice a n8 c] W fun e w' => ∃ g, e = .returned (.func (.func 125) #[] #[.pointer (some ⟨g, 0, none⟩)]) ∧ w'.cell? ⟨g, 0, none⟩ = some (.int .i64 CHO) ∧ W.heap.size ≤ g ∧ Below W.heap.size W w') := Hid.mk (fun W a c h1 h2 => HT2.out W a c DA h1 h2 rfl)
  clear HT2 hDA hU0 hCHO hCE hz0 hM hO hput hIv hmap hI
  generalize fillE put v.m = FE at *
  generalize usedL put v.m = UL at *
  generalize hOK : othK v.m = OK at *
  generalize hOB : othB v.m = OB at *
  generalize hS : v.m.at = S at *
  clear hOK hOB hS
  obtain ⟨⟨mid, mlo, mnm, size, mch, sigs⟩, ma, mn, mcap⟩ := v
  simp only at hsize hch
  subst hsize
  unfold msC at HBX HMAT HB0 HGA HIA HMA4 HBA
  unfold msV at HT ⊢
  simp only at HBX HMAT HB0 HGA HIA HMA4 HBA HT HMA HROW HGD HAP HYES HNO HMORE HOBD HRES HUSED HU0 hn16 ⊢
  go_enter Tryz.func29, Tryz.ntmps29
  go_wp2_with fail
  refine (HT.out _ _ _ HGA.out HBA.out).mono ?_
  rintro e w4 ⟨gt, rfl, hgt, hgb, hb4⟩
  have HB4 := Hid.mk hb4
  have HG4 := Hid.mk (HGA.out.trans (GM.below (HMAP.out _ _ HIA.out) hb4))
  have HD4 := Hid.mk (isBytes_below HBA.out hb4)
  have HI4 := Hid.mk (HIK.out _ _ _ HIA.out hb4)
  have HM4 := Hid.mk (HMA.out.keptC HG4.out.ck)
  have HGT := Hid.mk hgt
  obtain ⟨m0, m1, m2, m3, m4, m5⟩ := HMA4.out.kept hb4
  have HMA5 := Hid.mk (HMA4.out.kept hb4)
  simp only at m0 m1 m2 m3 m4 m5
  clear hb4 hgt hgb HT
  go_wp2_with fail
  go_loopw [6, 38] (fun u i wr => ∃ k : Nat, k ≤ mn ∧ i = .int .i64 k ∧ ∃ a c dk, u = .slice a n8 c ∧ Hid (IsBytes wr a n8 c dk) ∧ Hid (goE put (OK CHO k) DA = (0, dk)) ∧ Hid (Iv wr (U0 ++ (OK CHO k).map Sig.nm)) ∧ Hid (UsK S mch mn k (U0 ++ (OK CHO k).map Sig.nm)) ∧ Hid (GM bm w4 wr)) (fun _ i _ => mn - (intOf i).toNat)
  case atStart => exact ⟨0, Nat.zero_le _, rfl, _, _, DA, rfl, HD4, Hid.mk (by rw [HOK0.out]; rfl), Hid.mk (by rw [HOK0.out, List.map_nil, List.append_nil]; exact HI4.out), Hid.mk (by rw [HOK0.out, List.map_nil, List.append_nil]; exact UsK.start HU0.out), Hid.mk ⟨⟨rfl, rfl, rfl, Nat.le_refl _, fun _ _ _ => rfl⟩, HMAP.out _ _ HI4.out⟩⟩
  case round =>
    obtain ⟨k, hk, rfl, ak, ck, dk, rfl, HDk, HGk, HIk, HUk, HGM⟩ := hrel
    by_cases hlt : k < mn
    · have hlt' : (k : Int) < (mn : Int) := by omega
      obtain ⟨x, hx⟩ := HROW.out.some hlt
      cases hx
      have hSg := ((HROW.out.keptC HG4.out.ck).keptC HGM.out.ck).at hlt
      rw [← HGD.out] at hSg
      have HBX1 := Hid.mk (sg_box wr (S k))
      have HSAT := Hid.mk (SgAt.box wr (S k))
      have HTH := Hid.mk (fun W (hb : CK wr W) => there_any (S k) gt CHO W (hb _ _ (HGM.out.ck _ _ HGT.out)))
      have HYk := Hid.mk (HYES.out CHO k hlt)
      have HNk := Hid.mk (HNO.out CHO k hlt)
      have HMk := Hid.mk (HMORE.out CHO k hlt)
      have HPk := Hid.mk (fun W used (hI : Iv W used) (hn : (S k).nm ∉ used) (hD : IsBytes W ak n8 ck dk) => HPUT.out W used k ak ck dk hlt hI hn hD)
      have HNU : Hid ((k : Int) ≠ mch → (S k).nm ∉ U0 ++ (OK CHO k).map Sig.nm) := Hid.mk (fun hne => HUk.out.free hlt hne HAP.out)
      have HOB : Hid (OB CHO k = (!((k : Int) == mch) && thB CHO (S k))) := Hid.mk (HOBD.out CHO k)
      have HIk1 := Hid.mk (HIK.out _ _ _ HIk.out HBX1.out)
      have HDk1 := Hid.mk (isBytes_below HDk.out HBX1.out)
      obtain ⟨m0, m1, m2, m3, m4, m5⟩ := (HMA5.out.keptC HGM.out.ck).kept HBX1.out
      simp only at m0 m1 m2 m3 m4 m5
      have HSK : Hid (∃ y, y = S k) := Hid.mk ⟨_, rfl⟩
      obtain ⟨sk, hsk⟩ := HSK.out
      rw [← hsk] at hSg HTH HYk HMk HPk HNU HOB
      simp only [← hsk] at HBX1 HSAT HIk1 HDk1 m0 m1 m2 m3 m4 m5
      have HSKE := Hid.mk hsk
      clear hsk HSK
      generalize thB CHO sk = TH at *
      generalize hput : put sk dk = PD at *
      have HPD := Hid.mk hput
      clear hput
      obtain ⟨nm, st, sz, bk, sg, mu, di, ad, ky⟩ := sk
      unfold sgC at HBX1 HSAT HIk1 HDk1 m0 m1 m2 m3 m4 m5
      unfold sgV at HTH HPk
      simp only at HBX1 HSAT HTH HYk HMk HPk HNU HIk1 HDk1 m0 m1 m2 m3 m4 m5
      obtain ⟨s0, s1, s2, s3, s4, s5, s6, s7, s8⟩ := hSg
      simp only at s0 s1 s2 s3 s4 s5 s6 s7 s8
      by_cases hkc : (k : Int) = mch
      · have HN := Hid.mk (HNk.out (by rw [HOB.out, hkc]; simp))
        have hke : ((k : Int) == mch) = true := by simpa using hkc
        clear hkc
        go_wp2_with fail
        go_roundw
        case rel => exact ⟨k + 1, by omega, by go_num, _, _, dk, rfl, HDk1, by rw [HN.out]; exact HGk, by rw [HN.out]; exact HIk1, Hid.mk (by rw [HN.out]; exact HUk.out.next), Hid.mk (HGM.out.trans (GM.below (HMAP.out _ _ HIk.out) HBX1.out))⟩
        case measure => simp [intOf]; omega
      · have hke : ((k : Int) == mch) = false := by simpa using hkc
        have HNU1 := Hid.mk (HNU.out hkc)
        clear hkc
        cases TH with
        | false =>
          have HN := Hid.mk (HNk.out (by rw [HOB.out]; simp))
          go_wp2_with (go_at_fn 125; refine (HTH.out _ (CK.below HBX1.out)).mono ?_; rintro e w5 ⟨rfl, hb5⟩; have HB5 := Hid.mk hb5; clear hb5)
          go_roundw
          case rel => exact ⟨k + 1, by omega, by go_num, _, _, dk, rfl, Hid.mk (isBytes_below HDk1.out HB5.out), by rw [HN.out]; exact HGk, by rw [HN.out]; exact Hid.mk (HIK.out _ _ _ HIk1.out HB5.out), Hid.mk (by rw [HN.out]; exact HUk.out.next), Hid.mk (HGM.out.trans (GM.below (HMAP.out _ _ HIk.out) (bl2 HBX1.out HB5.out)))⟩
          case measure => simp [intOf]; omega
        | true =>
          have HYY := Hid.mk (HYk.out (by rw [HOB.out, hke]; rfl))
          have HMM := Hid.mk (HMk.out (by rw [HOB.out, hke]; rfl))
          go_wp2_with (first | (go_at_fn 125; refine (HTH.out _ (CK.below HBX1.out)).mono ?_; rintro e w5 ⟨rfl, hb5⟩; have HB5 := Hid.mk hb5; obtain ⟨s0, s1, s2, s3, s4, s5, s6, s7, s8⟩ := HSAT.out.kept hb5; clear hb5; simp only at s0 s1 s2 s3 s4 s5 s6 s7 s8) | (go_at_fn g; refine (HPk.out _ _ (HIK.out _ _ _ HIk1.out HB5.out) HNU1.out (isBytes_below HDk1.out HB5.out)).mono ?_; rintro e w6 ⟨HG6a, ⟨u, rfl, hne⟩ | ⟨a', c', rfl, HR6⟩⟩))
          · have HG6 := Hid.mk ((HGM.out.trans (GM.below (HMAP.out _ _ HIk.out) (bl2 HBX1.out HB5.out))).trans HG6a.out)
            go_ret2
            refine ⟨HG4.out.trans HG6.out, .inl ?_⟩
            obtain ⟨t, ht⟩ := HMM.out
            have hne1 : PD.1 ≠ 0 := by simpa using hne
            have hfin : goE put (OK CHO mn) DA = (PD.1, []) := by
              rw [ht, goE_fail HGk.out (by rw [HPD.out]; exact hne1), HPD.out]
            rw [HRES.out, hfin]
            exact ⟨hne1, rfl⟩
          · have HG6 := Hid.mk ((HGM.out.trans (GM.below (HMAP.out _ _ HIk.out) (bl2 HBX1.out HB5.out))).trans HG6a.out)
            have HZ := Hid.mk HR6.out.1
            have HB' := Hid.mk HR6.out.2.1
            have HI' := Hid.mk HR6.out.2.2
            go_roundw
            case rel =>
              refine ⟨k + 1, by omega, by go_num, _, _, PD.2, rfl, HB', ?_, ?_, ?_, HG6⟩
              · rw [HYY.out]
                exact Hid.mk (by rw [goE_snoc HGk.out (by rw [HPD.out]; exact HZ.out), HPD.out])
              · rw [HYY.out]
                have := HI'.out
                rw [List.append_assoc] at this
                exact Hid.mk (by rw [List.map_append]; exact this)
              · rw [HYY.out]
                have := HUk.out.snoc hlt
                rw [← HSKE.out, List.append_assoc] at this
                exact Hid.mk (by rw [List.map_append]; exact this)
            case measure => simp [intOf]; omega
    · have e : k = mn := by omega
      subst e
      go_wp2_with fail
      go_ret2
      refine ⟨HG4.out.trans HGM.out, .inr ?_⟩
      rw [HRES.out, HGk.out]
      exact ⟨rfl, _, _, rfl, HDk.out, by rw [HUSED.out]; exact HIk.out⟩
end Bw
end Go.Proofs.YtlnkhlifkooohaaGreatDoor
namespace Go.Proofs.YtlnkhlifkooohaaGreatDoor
open Go.ChangeShapes Go.WideShapes Go.ChangeAt Go.RowKit Go.Sort
namespace Bw
open Sm
set_option maxHeartbeats 32000000 in
set_option maxRecDepth 100000 in
theorem fill_some (g : Nat) (lb : Array Value) (eg : ∀ args w, (callFunc g args).run Tryz.prog w = .ok (.enter g args) w) (put : PutF) (Iv : World → List ByteArray → Prop) (bm : Nat) (v : MsV) (n8 : Nat) (w : World) (hM : MsIn w v) (hO : OkM v.m) (hsize : v.m.size = n8)
    (hput : ∀ W used s a c d, Iv W used → s ∈ v.m.sigs → s.nm ∉ used → IsBytes W a n8 c d → Calls Tryz.prog g (#[sgV s, .slice a n8 c] ++ lb) W (PutP (put s d) (fun w' => Iv w' (used ++ [s.nm])) bm n8 W))
    (hIv : ∀ W W' used, Iv W used → Below W.heap.size W W' → Iv W' used) (hmap : ∀ W used, Iv W used → ∃ es cl, W.heap[bm]? = some (.map es cl)) (hI : Iv w []) (hch : 0 ≤ v.m.ch) :
    Calls Tryz.prog 29 #[msV v, .func (.func g) #[] lb] w (FillP (fillE put v.m) (fun w' => Iv w' (usedL put v.m)) bm n8 w) := by
  have HBX := Hid.mk (ms_box w v)
  have HMAT := Hid.mk (MsAt.box w v)
  have HPUT := Hid.mk (fun W used k a c d (hk : k < v.n) (hI : Iv W used) (hn : (v.m.at k).nm ∉ used) (hD : IsBytes W a n8 c d) => hput W used (v.m.at k) a c d hI (v.m.mem (by rw [hM.row.len]; exact hk)) hn hD)
  have HIK := Hid.mk hIv
  have HMAP := Hid.mk hmap
  have hent := enter_there
  have hlen : v.m.sigs.length = v.n := hM.row.len
  have hn16 : v.n ≤ 16 := by have := hO.many; omega
  have hn8 : n8 ≤ 8 := by have := hO.size8; omega
  have HT := Hid.mk (fun W a c d (h : GM bm w W) (hD : IsBytes W a n8 c d) => isThere_any v a n8 c d W (hM.keptC h.ck) hD hO hsize (Nat.le_refl _) (by omega))
  have HROW := Hid.mk hM.row
  have HMA := Hid.mk hM
  have HGD : Hid (∀ i, v.m.at i = v.m.sigs.getD i noS) := Hid.mk (fun _ => rfl)
  have HAP := Hid.mk (fun i j (hi : i < v.n) (hj : j < v.n) (hne : i ≠ j) => hO.apart (by rw [hlen]; exact hi) (by rw [hlen]; exact hj) hne)
  have HYES := Hid.mk (fun c k (_ : k < v.n) (h : othB v.m c k = true) => othK_yes v.m c h)
  have HNO := Hid.mk (fun c k (_ : k < v.n) (h : othB v.m c k = false) => othK_no v.m c h)
  have HMORE := Hid.mk (fun c k (hk : k < v.n) (h : othB v.m c k = true) => othK_more v.m c h hk)
  have HOBD : Hid (∀ c k, othB v.m c k = (!((k : Int) == v.m.ch) && thB c (v.m.at k))) := Hid.mk (fun _ _ => rfl)
  have HOK0 : Hid (∀ c, othK v.m c 0 = []) := Hid.mk (fun _ => rfl)
  have hz0 : zerosM v.m = List.replicate n8 0 := by unfold zerosM; rw [hsize]; rfl
  have hmk : ∀ W : World, (Instr.makeSlice 26 (.int .i64 (n8 : Int)) (.int .i64 (n8 : Int))).run Tryz.prog W = .ok (.slice (some ⟨W.heap.size, 0, none⟩) n8 n8) (W.alloc (.cells (madeCells #[.int .u8 0] n8) 5)) := by
    intro W
    exact run_make_row' 26 5 (.int .u8 0) 1 Tryz.underlying26 info_u8M rfl .i64 .i64 n8 (by omega) (by omega) W
  obtain ⟨c0, hc0⟩ : ∃ c0 : Nat, v.m.ch = c0 := ⟨v.m.ch.toNat, by omega⟩
  have hc0n : c0 < v.n := by have := hO.ch1; omega
  have hCE : chooE put v.m = put (v.m.at c0) (List.replicate n8 0) := by unfold chooE; rw [if_pos hch, hz0, hc0, Int.toNat_natCast]
  have HRESB : Hid ((put (v.m.at c0) (List.replicate n8 0)).1 ≠ 0 → fillE put v.m = ((put (v.m.at c0) (List.replicate n8 0)).1, [])) := Hid.mk (fun h => by unfold fillE; rw [hCE, if_neg h])
  have HRESA : Hid ((put (v.m.at c0) (List.replicate n8 0)).1 = 0 → fillE put v.m = goE put (othK v.m (choD v.m (put (v.m.at c0) (List.replicate n8 0)).2) v.n) (put (v.m.at c0) (List.replicate n8 0)).2) := Hid.mk (fun h => by unfold fillE; rw [hCE, if_pos h, hlen])
  have HUSED : Hid (usedL put v.m = [(v.m.at c0).nm] ++ (othK v.m (choD v.m (put (v.m.at c0) (List.replicate n8 0)).2) v.n).map Sig.nm) := Hid.mk (by unfold usedL; rw [hCE, if_pos hch, hlen, hc0, Int.toNat_natCast])
  have HU0 : Hid (∀ x ∈ [(v.m.at c0).nm], ∃ j : Nat, (j : Int) = v.m.ch ∧ j < v.n ∧ x = (v.m.at j).nm) := Hid.mk (fun x hx => ⟨c0, hc0.symm, hc0n, by simpa using hx⟩)
  have HB0 := Hid.mk (fl_W0 w v n8)
  have HG0 := Hid.mk (GM.below (hmap _ _ hI) HB0.out)
  have HP0 := Hid.mk (hput _ [] (v.m.at c0) _ _ _ (hIv _ _ _ hI HB0.out) (v.m.mem (by omega)) (by simp) (fl_W0z w v n8 hn8))
  have HMA0 := Hid.mk (fl_W0m w v n8)
  obtain ⟨x0, hx0⟩ := hM.row.some hc0n
  have hr := hM.row
  rw [hx0] at hr
  have hSg0 := (hr.kept HB0.out).at hc0n
  have e9 : v.m.sigs.getD c0 noS = v.m.at c0 := rfl
  rw [e9] at hSg0
  obtain ⟨PD0, hPD0⟩ : ∃ p, p = put (v.m.at c0) (List.replicate n8 0) := ⟨_, rfl⟩
  rw [← hPD0] at HRESB HRESA HUSED HP0
  obtain ⟨CHO, hCHO⟩ : ∃ c, c = choD v.m PD0.2 := ⟨_, rfl⟩
  rw [← hCHO] at HRESA HUSED
  obtain ⟨DA, hDA⟩ : ∃ D, D = PD0.2 := ⟨_, rfl⟩
  rw [← hDA] at HRESA hCHO
  have HT2 : Hid (∀ W a c, GM bm w W → IsBytes W a n8 c DA → Calls Tryz.prog 76 #[msV v, .slice a n8 c] W fun e w' => ∃ g, e = .returned (.func (.func 125) #[] #[.pointer (some ⟨g, 0, none⟩)]) ∧ w'.cell? ⟨g, 0, none⟩ = some (.int .i64 CHO) ∧ W.heap.size ≤ g ∧ Below W.heap.size W w') := Hid.mk (fun W a c h1 h2 => by
    have := HT.out W a c DA h1 h2
    rw [← hCHO] at this
    exact this)
  clear HT
  have HT : Hid (∀ W a c, GM bm w W → IsBytes W a n8 c DA → Calls Tryz.prog 76 #[msV v, .slice a n8 c] W fun e w' => ∃ g, e = .returned (.func (.func 125) #[] #[.pointer (some ⟨g, 0, none⟩)]) ∧ w'.cell? ⟨g, 0, none⟩ = some (.int .i64 CHO) ∧ W.heap.size ≤ g ∧ Below W.heap.size W w') := Hid.mk (fun W a c h1 h2 => HT2.out W a c h1 h2)
  have HDA := Hid.mk hDA
  obtain ⟨U0, hU0⟩ : ∃ U : List ByteArray, U = [(v.m.at c0).nm] := ⟨_, rfl⟩
  have hne0 : ([] : List ByteArray) ++ [(v.m.at c0).nm] = U0 := by rw [hU0]; rfl
  rw [← hU0] at HUSED HU0
  rw [hne0] at HP0
  clear HT2 hDA hU0 hCHO hCE hz0 hM hO hput hIv hmap hI hPD0 e9 hr hne0
  generalize fillE put v.m = FE at *
  generalize usedL put v.m = UL at *
  generalize hOK : othK v.m = OK at *
  generalize hOB : othB v.m = OB at *
  generalize hS : v.m.at = S at *
  clear hOK hOB hS
  have HSC : Hid (∃ y, y = S c0) := Hid.mk ⟨_, rfl⟩
  obtain ⟨sc, hsc⟩ := HSC.out
  rw [← hsc] at hSg0 HP0
  clear hsc HSC
  obtain ⟨nm0, st0, sz0, bk0, sg0, mu0, di0, ad0, ky0⟩ := sc
  obtain ⟨⟨mid, mlo, mnm, size, mch, sigs⟩, ma, mn, mcap⟩ := v
  simp only at hsize hch hc0 hx0 hc0n
  subst hsize
  subst hc0
  subst hx0
  unfold msC at HBX HMAT HB0 HG0 HMA0 HP0 hSg0
  unfold msV at HT ⊢
  unfold sgV at HP0
  obtain ⟨z0, z1, z2, z3, z4, z5, z6, z7, z8⟩ := hSg0
  simp only at HBX HMAT HB0 HG0 HMA0 HP0 HT HMA HROW HGD HAP HYES HNO HMORE HOBD HRESA HRESB HUSED HU0 hn16 z0 z1 z2 z3 z4 z5 z6 z7 z8 hc0n ⊢
  have hcc : (c0 : Int) < (mn : Int) := by omega
  have hcc0 : (0 : Int) ≤ (c0 : Int) := by omega
  obtain ⟨m0, m1, m2, m3, m4, m5⟩ := HMA0.out
  simp only at m0 m1 m2 m3 m4 m5
  go_enter Tryz.func29, Tryz.ntmps29
  go_wp2_with (go_at_fn g; refine HP0.out.mono ?_; (rintro e w3 ⟨HG3a, ⟨u, rfl, hne⟩ | ⟨a3, c3, rfl, HR3⟩⟩ <;> (obtain ⟨m0, m1, m2, m3, m4, m5⟩ := HMA0.out.keptC HG3a.out.ck; simp only at m0 m1 m2 m3 m4 m5)))
  · go_ret2
    refine ⟨HG0.out.trans HG3a.out, .inl ?_⟩
    have hne1 : PD0.1 ≠ 0 := by simpa using hne
    rw [HRESB.out hne1]
    exact ⟨hne1, rfl⟩
  have HGA := Hid.mk (HG0.out.trans HG3a.out)
  have HMA4 := Hid.mk (HMA0.out.keptC HG3a.out.ck)
  obtain ⟨m0, m1, m2, m3, m4, m5⟩ := HMA4.out
  simp only at m0 m1 m2 m3 m4 m5
  have HRES := Hid.mk (HRESA.out HR3.out.1)
  have hB3 := HR3.out.2.1
  rw [← HDA.out] at hB3
  have HBA := Hid.mk hB3
  have HIA := Hid.mk HR3.out.2.2
  clear hB3 HRESA HRESB
  refine (HT.out _ _ _ HGA.out HBA.out).mono ?_
  rintro e w4 ⟨gt, rfl, hgt, hgb, hb4⟩
  have HB4 := Hid.mk hb4
  have HG4 := Hid.mk (HGA.out.trans (GM.below (HMAP.out _ _ HIA.out) hb4))
  have HD4 := Hid.mk (isBytes_below HBA.out hb4)
  have HI4 := Hid.mk (HIK.out _ _ _ HIA.out hb4)
  have HM4 := Hid.mk (HMA.out.keptC HG4.out.ck)
  have HGT := Hid.mk hgt
  obtain ⟨m0, m1, m2, m3, m4, m5⟩ := HMA4.out.kept hb4
  have HMA5 := Hid.mk (HMA4.out.kept hb4)
  simp only at m0 m1 m2 m3 m4 m5
  clear hb4 hgt hgb HT
  go_wp2_with fail
  go_loopw [6, 38] (fun u i wr => ∃ k : Nat, k ≤ mn ∧ i = .int .i64 k ∧ ∃ a c dk, u = .slice a n8 c ∧ Hid (IsBytes wr a n8 c dk) ∧ Hid (goE put (OK CHO k) DA = (0, dk)) ∧ Hid (Iv wr (U0 ++ (OK CHO k).map Sig.nm)) ∧ Hid (UsK S (c0 : Int) mn k (U0 ++ (OK CHO k).map Sig.nm)) ∧ Hid (GM bm w4 wr)) (fun _ i _ => mn - (intOf i).toNat)
  case atStart => exact ⟨0, Nat.zero_le _, rfl, _, _, DA, rfl, HD4, Hid.mk (by rw [HOK0.out]; rfl), Hid.mk (by rw [HOK0.out, List.map_nil, List.append_nil]; exact HI4.out), Hid.mk (by rw [HOK0.out, List.map_nil, List.append_nil]; exact UsK.start HU0.out), Hid.mk ⟨⟨rfl, rfl, rfl, Nat.le_refl _, fun _ _ _ => rfl⟩, HMAP.out _ _ HI4.out⟩⟩
  case round =>
    obtain ⟨k, hk, rfl, ak, ck, dk, rfl, HDk, HGk, HIk, HUk, HGM⟩ := hrel
    by_cases hlt : k < mn
    · have hlt' : (k : Int) < (mn : Int) := by omega
      obtain ⟨x, hx⟩ := HROW.out.some hlt
      cases hx
      have hSg := ((HROW.out.keptC HG4.out.ck).keptC HGM.out.ck).at hlt
      rw [← HGD.out] at hSg
      have HBX1 := Hid.mk (sg_box wr (S k))
      have HSAT := Hid.mk (SgAt.box wr (S k))
      have HTH := Hid.mk (fun W (hb : CK wr W) => there_any (S k) gt CHO W (hb _ _ (HGM.out.ck _ _ HGT.out)))
      have HYk := Hid.mk (HYES.out CHO k hlt)
      have HNk := Hid.mk (HNO.out CHO k hlt)
      have HMk := Hid.mk (HMORE.out CHO k hlt)
      have HPk := Hid.mk (fun W used (hI : Iv W used) (hn : (S k).nm ∉ used) (hD : IsBytes W ak n8 ck dk) => HPUT.out W used k ak ck dk hlt hI hn hD)
      have HNU : Hid ((k : Int) ≠ (c0 : Int) → (S k).nm ∉ U0 ++ (OK CHO k).map Sig.nm) := Hid.mk (fun hne => HUk.out.free hlt hne HAP.out)
      have HOB : Hid (OB CHO k = (!((k : Int) == (c0 : Int)) && thB CHO (S k))) := Hid.mk (HOBD.out CHO k)
      have HIk1 := Hid.mk (HIK.out _ _ _ HIk.out HBX1.out)
      have HDk1 := Hid.mk (isBytes_below HDk.out HBX1.out)
      obtain ⟨m0, m1, m2, m3, m4, m5⟩ := (HMA5.out.keptC HGM.out.ck).kept HBX1.out
      simp only at m0 m1 m2 m3 m4 m5
      have HSK : Hid (∃ y, y = S k) := Hid.mk ⟨_, rfl⟩
      obtain ⟨sk, hsk⟩ := HSK.out
      rw [← hsk] at hSg HTH HYk HMk HPk HNU HOB
      simp only [← hsk] at HBX1 HSAT HIk1 HDk1 m0 m1 m2 m3 m4 m5
      have HSKE := Hid.mk hsk
      clear hsk HSK
      generalize thB CHO sk = TH at *
      generalize hput : put sk dk = PD at *
      have HPD := Hid.mk hput
      clear hput
      obtain ⟨nm, st, sz, bk, sg, mu, di, ad, ky⟩ := sk
      unfold sgC at HBX1 HSAT HIk1 HDk1 m0 m1 m2 m3 m4 m5
      unfold sgV at HTH HPk
      simp only at HBX1 HSAT HTH HYk HMk HPk HNU HIk1 HDk1 m0 m1 m2 m3 m4 m5
      obtain ⟨s0, s1, s2, s3, s4, s5, s6, s7, s8⟩ := hSg
      simp only at s0 s1 s2 s3 s4 s5 s6 s7 s8
      by_cases hkc : (k : Int) = (c0 : Int)
      · have HN := Hid.mk (HNk.out (by rw [HOB.out, hkc]; simp))
        have hke : ((k : Int) == (c0 : Int)) = true := by rw [hkc]; simp
        clear hkc
        go_wp2_with fail
        go_roundw
        case rel => exact ⟨k + 1, by omega, by go_num, _, _, dk, rfl, HDk1, by rw [HN.out]; exact HGk, by rw [HN.out]; exact HIk1, Hid.mk (by rw [HN.out]; exact HUk.out.next), Hid.mk (HGM.out.trans (GM.below (HMAP.out _ _ HIk.out) HBX1.out))⟩
        case measure => simp [intOf]; omega
      · have hke : ((k : Int) == (c0 : Int)) = false := beq_false_of_ne hkc
        have HNU1 := Hid.mk (HNU.out hkc)
        clear hkc
        cases TH with
        | false =>
          have HN := Hid.mk (HNk.out (by rw [HOB.out]; simp))
          go_wp2_with (go_at_fn 125; refine (HTH.out _ (CK.below HBX1.out)).mono ?_; rintro e w5 ⟨rfl, hb5⟩; have HB5 := Hid.mk hb5; clear hb5)
          go_roundw
          case rel => exact ⟨k + 1, by omega, by go_num, _, _, dk, rfl, Hid.mk (isBytes_below HDk1.out HB5.out), by rw [HN.out]; exact HGk, by rw [HN.out]; exact Hid.mk (HIK.out _ _ _ HIk1.out HB5.out), Hid.mk (by rw [HN.out]; exact HUk.out.next), Hid.mk (HGM.out.trans (GM.below (HMAP.out _ _ HIk.out) (bl2 HBX1.out HB5.out)))⟩
          case measure => simp [intOf]; omega
        | true =>
          have HYY := Hid.mk (HYk.out (by rw [HOB.out, hke]; rfl))
          have HMM := Hid.mk (HMk.out (by rw [HOB.out, hke]; rfl))
          go_wp2_with (first | (go_at_fn 125; refine (HTH.out _ (CK.below HBX1.out)).mono ?_; rintro e w5 ⟨rfl, hb5⟩; have HB5 := Hid.mk hb5; obtain ⟨s0, s1, s2, s3, s4, s5, s6, s7, s8⟩ := HSAT.out.kept hb5; clear hb5; simp only at s0 s1 s2 s3 s4 s5 s6 s7 s8) | (go_at_fn g; refine (HPk.out _ _ (HIK.out _ _ _ HIk1.out HB5.out) HNU1.out (isBytes_below HDk1.out HB5.out)).mono ?_; rintro e w6 ⟨HG6a, ⟨u, rfl, hne⟩ | ⟨a', c', rfl, HR6⟩⟩))
          · have HG6 := Hid.mk ((HGM.out.trans (GM.below (HMAP.out _ _ HIk.out) (bl2 HBX1.out HB5.out))).trans HG6a.out)
            go_ret2
            refine ⟨HG4.out.trans HG6.out, .inl ?_⟩
            obtain ⟨t, ht⟩ := HMM.out
            have hne1 : PD.1 ≠ 0 := by simpa using hne
            have hfin : goE put (OK CHO mn) DA = (PD.1, []) := by
              rw [ht, goE_fail HGk.out (by rw [HPD.out]; exact hne1), HPD.out]
            rw [HRES.out, hfin]
            exact ⟨hne1, rfl⟩
          · have HG6 := Hid.mk ((HGM.out.trans (GM.below (HMAP.out _ _ HIk.out) (bl2 HBX1.out HB5.out))).trans HG6a.out)
            have HZ := Hid.mk HR6.out.1
            have HB' := Hid.mk HR6.out.2.1
            have HI' := Hid.mk HR6.out.2.2
            go_roundw
            case rel =>
              refine ⟨k + 1, by omega, by go_num, _, _, PD.2, rfl, HB', ?_, ?_, ?_, HG6⟩
              · rw [HYY.out]
                exact Hid.mk (by rw [goE_snoc HGk.out (by rw [HPD.out]; exact HZ.out), HPD.out])
              · rw [HYY.out]
                have := HI'.out
                rw [List.append_assoc] at this
                exact Hid.mk (by rw [List.map_append]; exact this)
              · rw [HYY.out]
                have := HUk.out.snoc hlt
                rw [← HSKE.out, List.append_assoc] at this
                exact Hid.mk (by rw [List.map_append]; exact this)
            case measure => simp [intOf]; omega
    · have e : k = mn := by omega
      subst e
      go_wp2_with fail
      go_ret2
      refine ⟨HG4.out.trans HGM.out, .inr ?_⟩
      rw [HRES.out, HGk.out]
      exact ⟨rfl, _, _, rfl, HDk.out, by rw [HUSED.out]; exact HIk.out⟩
end Bw
end Go.Proofs.YtlnkhlifkooohaaGreatDoor
namespace Go.Proofs.YtlnkhlifkooohaaGreatDoor
open Go.ChangeShapes Go.WideShapes Go.ChangeAt Go.RowKit
namespace Bw
open Sm
def Six (w : World) (g : Nat) (c0 c1 c2 c3 c4 c5 : Value) : Prop := w.heap[g]? = some (.cells #[c0, c1, c2, c3, c4, c5] 28 (0, 0))
theorem Six.lt {w : World} {g : Nat} {c0 c1 c2 c3 c4 c5 : Value} (h : Six w g c0 c1 c2 c3 c4 c5) : g < w.heap.size := (Array.getElem?_eq_some_iff.1 h).1
theorem Six.kept {w w' : World} {g : Nat} {c0 c1 c2 c3 c4 c5 : Value} (h : Six w g c0 c1 c2 c3 c4 c5) (hb : Below w.heap.size w w') : Six w' g c0 c1 c2 c3 c4 c5 := by unfold Six; rw [hb.block g h.lt]; exact h
theorem Six.keptG {bm : Nat} {w w' : World} {g : Nat} {c0 c1 c2 c3 c4 c5 : Value} (h : Six w g c0 c1 c2 c3 c4 c5) (hb : GM bm w w') : Six w' g c0 c1 c2 c3 c4 c5 := by
  unfold Six
  rw [hb.grown.block g h.lt (fun e => by
    obtain ⟨es, cl, hm⟩ := hb.map
    have e1 : g = bm := by simpa using e
    subst e1
    unfold Six at h
    rw [h] at hm
    cases hm)]
  exact h
theorem Six.cells {w : World} {g : Nat} {c0 c1 c2 c3 c4 c5 : Value} (h : Six w g c0 c1 c2 c3 c4 c5) : (w.cell? ⟨g, 0, none⟩ = some c0 ∧ w.cell? ⟨g, 1, none⟩ = some c1 ∧ w.cell? ⟨g, 2, none⟩ = some c2 ∧ w.cell? ⟨g, 3, none⟩ = some c3 ∧ w.cell? ⟨g, 4, none⟩ = some c4 ∧ w.cell? ⟨g, 5, none⟩ = some c5) ∧ (w.frozen? ⟨g, 0, none⟩ = false ∧ w.frozen? ⟨g, 1, none⟩ = false ∧ w.frozen? ⟨g, 2, none⟩ = false ∧ w.frozen? ⟨g, 3, none⟩ = false ∧ w.frozen? ⟨g, 4, none⟩ = false ∧ w.frozen? ⟨g, 5, none⟩ = false) :=
  ⟨⟨cell_of_row _ _ 0 _ _ _ h, cell_of_row _ _ 1 _ _ _ h, cell_of_row _ _ 2 _ _ _ h, cell_of_row _ _ 3 _ _ _ h, cell_of_row _ _ 4 _ _ _ h, cell_of_row _ _ 5 _ _ _ h⟩, ⟨frozen_of_row _ _ 0 _ _ h, frozen_of_row _ _ 1 _ _ h, frozen_of_row _ _ 2 _ _ h, frozen_of_row _ _ 3 _ _ h, frozen_of_row _ _ 4 _ _ h, frozen_of_row _ _ 5 _ _ h⟩⟩
theorem Six.store {w : World} {g : Nat} {c0 c1 c2 c3 c4 c5 : Value} (h : Six w g c0 c1 c2 c3 c4 c5) (d0 d1 d2 d3 d4 d5 : Value) :
    ((w.setCell ⟨g, 0, none⟩ d0).cell? ⟨g, 1, none⟩ = some c1 ∧ (w.setCell ⟨g, 0, none⟩ d0).frozen? ⟨g, 1, none⟩ = false) ∧ (((w.setCell ⟨g, 0, none⟩ d0).setCell ⟨g, 1, none⟩ d1).cell? ⟨g, 2, none⟩ = some c2 ∧ ((w.setCell ⟨g, 0, none⟩ d0).setCell ⟨g, 1, none⟩ d1).frozen? ⟨g, 2, none⟩ = false) ∧ ((((w.setCell ⟨g, 0, none⟩ d0).setCell ⟨g, 1, none⟩ d1).setCell ⟨g, 2, none⟩ d2).cell? ⟨g, 3, none⟩ = some c3 ∧ (((w.setCell ⟨g, 0, none⟩ d0).setCell ⟨g, 1, none⟩ d1).setCell ⟨g, 2, none⟩ d2).frozen? ⟨g, 3, none⟩ = false) ∧ (((((w.setCell ⟨g, 0, none⟩ d0).setCell ⟨g, 1, none⟩ d1).setCell ⟨g, 2, none⟩ d2).setCell ⟨g, 3, none⟩ d3).cell? ⟨g, 4, none⟩ = some c4 ∧ ((((w.setCell ⟨g, 0, none⟩ d0).setCell ⟨g, 1, none⟩ d1).setCell ⟨g, 2, none⟩ d2).setCell ⟨g, 3, none⟩ d3).frozen? ⟨g, 4, none⟩ = false) ∧ ((((((w.setCell ⟨g, 0, none⟩ d0).setCell ⟨g, 1, none⟩ d1).setCell ⟨g, 2, none⟩ d2).setCell ⟨g, 3, none⟩ d3).setCell ⟨g, 4, none⟩ d4).cell? ⟨g, 5, none⟩ = some c5 ∧ (((((w.setCell ⟨g, 0, none⟩ d0).setCell ⟨g, 1, none⟩ d1).setCell ⟨g, 2, none⟩ d2).setCell ⟨g, 3, none⟩ d3).setCell ⟨g, 4, none⟩ d4).frozen? ⟨g, 5, none⟩ = false) ∧ Six ((((((w.setCell ⟨g, 0, none⟩ d0).setCell ⟨g, 1, none⟩ d1).setCell ⟨g, 2, none⟩ d2).setCell ⟨g, 3, none⟩ d3).setCell ⟨g, 4, none⟩ d4).setCell ⟨g, 5, none⟩ d5) g d0 d1 d2 d3 d4 d5 := by
  have e0 : w.heap[g]? = some (.cells #[c0, c1, c2, c3, c4, c5] 28 (0, 0)) := h
  have e1 := heap_setCell_same _ g 0 _ _ d0 e0
  have e2 := heap_setCell_same _ g 1 _ _ d1 e1
  have e3 := heap_setCell_same _ g 2 _ _ d2 e2
  have e4 := heap_setCell_same _ g 3 _ _ d3 e3
  have e5 := heap_setCell_same _ g 4 _ _ d4 e4
  have e6 := heap_setCell_same _ g 5 _ _ d5 e5
  exact ⟨⟨cell_of_row _ _ 1 _ _ _ e1, frozen_of_row _ _ 1 _ _ e1⟩, ⟨cell_of_row _ _ 2 _ _ _ e2, frozen_of_row _ _ 2 _ _ e2⟩, ⟨cell_of_row _ _ 3 _ _ _ e3, frozen_of_row _ _ 3 _ _ e3⟩, ⟨cell_of_row _ _ 4 _ _ _ e4, frozen_of_row _ _ 4 _ _ e4⟩, ⟨cell_of_row _ _ 5 _ _ _ e5, frozen_of_row _ _ 5 _ _ e5⟩, e6⟩
theorem six_B {B : Nat} {a w : World} (h : Below B a w) {g : Nat} (hg : B ≤ g) (d0 d1 d2 d3 d4 d5 : Value) : Below B a ((((((w.setCell ⟨g, 0, none⟩ d0).setCell ⟨g, 1, none⟩ d1).setCell ⟨g, 2, none⟩ d2).setCell ⟨g, 3, none⟩ d3).setCell ⟨g, 4, none⟩ d4).setCell ⟨g, 5, none⟩ d5) :=
  ((((((((((((h).setCell (p := ⟨g, 0, none⟩) hg d0)).setCell (p := ⟨g, 1, none⟩) hg d1)).setCell (p := ⟨g, 2, none⟩) hg d2)).setCell (p := ⟨g, 3, none⟩) hg d3)).setCell (p := ⟨g, 4, none⟩) hg d4)).setCell (p := ⟨g, 5, none⟩) hg d5)
theorem fr_i : (Tryz.prog.info? 28).map (·.size) = some 6 := by kernel_rfl
theorem six_B0 (w : World) (v : MsV) : Below w.heap.size w ((w.alloc (msC v)).alloc (.cells #[.int .i64 0, .bool false, .bool false, .bool false, .int .i64 0, .slice none 0 0] 28)) := ((Below.refl _ _).alloc (Nat.le_refl _) _).alloc (by simp) _
theorem six_M0 (w : World) (v : MsV) : MsAt ((w.alloc (msC v)).alloc (.cells #[.int .i64 0, .bool false, .bool false, .bool false, .int .i64 0, .slice none 0 0] 28)) w.heap.size v := (MsAt.box w v).kept (awB1 _ _)
theorem six_S0 (w : World) (v : MsV) : Six ((w.alloc (msC v)).alloc (.cells #[.int .i64 0, .bool false, .bool false, .bool false, .int .i64 0, .slice none 0 0] 28)) (w.heap.size + 1) (.int .i64 0) (.bool false) (.bool false) (.bool false) (.int .i64 0) (.slice none 0 0) := by
  have := heap_alloc_new (w.alloc (msC v)) (.cells #[.int .i64 0, .bool false, .bool false, .bool false, .int .i64 0, .slice none 0 0] 28)
  rw [show (w.alloc (msC v)).heap.size = w.heap.size + 1 by simp] at this
  exact this
theorem fill_any (g : Nat) (lb : Array Value) (eg : ∀ args w, (callFunc g args).run Tryz.prog w = .ok (.enter g args) w) (put : PutF) (Iv : World → List ByteArray → Prop) (bm : Nat) (v : MsV) (n8 : Nat) (w : World) (hM : MsIn w v) (hO : OkM v.m) (hsize : v.m.size = n8)
    (hput : ∀ W used s a c d, Iv W used → s ∈ v.m.sigs → s.nm ∉ used → IsBytes W a n8 c d → Calls Tryz.prog g (#[sgV s, .slice a n8 c] ++ lb) W (PutP (put s d) (fun w' => Iv w' (used ++ [s.nm])) bm n8 W))
    (hIv : ∀ W W' used, Iv W used → Below W.heap.size W W' → Iv W' used) (hmap : ∀ W used, Iv W used → ∃ es cl, W.heap[bm]? = some (.map es cl)) (hI : Iv w []) :
    Calls Tryz.prog 29 #[msV v, .func (.func g) #[] lb] w (FillP (fillE put v.m) (fun w' => Iv w' (usedL put v.m)) bm n8 w) := by
  by_cases h : 0 ≤ v.m.ch
  · exact fill_some g lb eg put Iv bm v n8 w hM hO hsize hput hIv hmap hI h
  · exact fill_none g lb eg put Iv bm v n8 w hM hO hsize hput hIv hmap hI (by omega)
end Bw
end Go.Proofs.YtlnkhlifkooohaaGreatDoor
namespace Go.Proofs.YtlnkhlifkooohaaGreatDoor
open Go.ChangeShapes Go.WideShapes Go.ChangeAt Go.RowKit
namespace Bw
open Sm
/-- have two one name? -/
def dupE (l : List Rd) : Int := firstE (fun i => firstE (fun j => if (rdAt l j).nm = (rdAt l i).nm then 9 else 0) i) l.length
theorem dupE_zero {l : List Rd} : dupE l = 0 ↔ NoTwo l := by
  constructor
  · intro h i j hij hj e
    have h1 := firstE_zero (firstE_zero h j hj) i hij
    simp only [e, if_true] at h1
    omega
  · intro h
    refine firstE_all (fun i hi => firstE_all (fun j hj => ?_))
    simp only [if_neg (h j i hj hi)]
/-- the error of Write -/
def writeE (m : Msg) (l : List Rd) : Int :=
  if chkM m ≠ 0 then chkM m else if dupE l ≠ 0 then 9 else if (fillE (putW l) m).1 ≠ 0 then (fillE (putW l) m).1 else if (usedL (putW l) m).length < l.length then 8 else 0
def zF : Value := frameV 0 false false false 0 none 0 0
def WriteP (E : Int) (id : Int) (lo : Bool) (n8 : Nat) (d : List UInt8) (w : World) (e : Ending) (w' : World) : Prop :=
  Below w.heap.size w w' ∧ ((E ≠ 0 ∧ e = .returned (.tuple #[zF, .int .i64 E])) ∨ (E = 0 ∧ ∃ a c, e = .returned (.tuple #[frameV id lo false false 0 a n8 c, .int .i64 0]) ∧ IsBytes w' a n8 c d))
theorem mw_res (tmps : Array Value) (w : World) (g : Nat) (c0 c1 c2 c3 c4 c5 y : Value) (hp : tmps.getD 4 undef = .pointer (some ⟨g, 0, none⟩)) (hy : tmps.getD 5 undef = y) (h : Six w g c0 c1 c2 c3 c4 c5) :
    (results Tryz.f7 tmps).run Tryz.prog w = .ok (.tuple #[.agg #[c0, c1, c2, c3, c4, c5], y]) w := by
  have hl := run_loadVar_row (P := Tryz.prog) w g 28 28 #[c0, c1, c2, c3, c4, c5] (0, 0) _ h Tryz.underlying28 rfl (by rw [fr_i]; rfl)
  have hp' : tmps[4]?.getD undef = .pointer (some ⟨g, 0, none⟩) := by simpa using hp
  have hy' : tmps[5]?.getD undef = y := by simpa using hy
  simp [results, hp', hy', asAddr, hl]
theorem enter_putW : ∀ args w, (callFunc 30 args).run Tryz.prog w = .ok (.enter 30 args) w := enters_of Tryz.func30 (by kernel_rfl) rfl
/-- bytes whose cells are numbers stand while a frame's variable is written -/
theorem bytes_six {w : World} {g : Nat} {i0 i4 : Int} {b1 b2 b3 : Bool} {sa : Option Addr} {sn sc : Nat} (h : Six w g (.int .i64 i0) (.bool b1) (.bool b2) (.bool b3) (.int .i64 i4) (.slice sa sn sc)) {a : Option Addr} {len cap : Nat} {l : List UInt8} (hB : IsBytes w a len cap l) (d0 d1 d2 d3 d4 d5 : Value) :
    IsBytes ((((((w.setCell ⟨g, 0, none⟩ d0).setCell ⟨g, 1, none⟩ d1).setCell ⟨g, 2, none⟩ d2).setCell ⟨g, 3, none⟩ d3).setCell ⟨g, 4, none⟩ d4).setCell ⟨g, 5, none⟩ d5) a len cap l := by
  refine ⟨hB.1, hB.2.1, hB.2.2.1, hB.2.2.2.1, fun x hx i hi => ?_⟩
  have h1 := hB.2.2.2.2 x hx i hi
  have hb : (x.add i).block = x.block := by unfold Addr.add; split <;> rfl
  have hn : (x.add i).block ≠ g := by
    intro e
    have h4 := h1
    unfold World.cell? at h4
    unfold Six at h
    rw [e, h] at h4
    simp only at h4
    generalize (x.add i).off = o at h4
    rcases o with _ | _ | _ | _ | _ | _ | o <;> simp at h4
  unfold World.cell? at h1 ⊢
  rw [Below.heap_setCell _ _ _ _ hn, Below.heap_setCell _ _ _ _ hn, Below.heap_setCell _ _ _ _ hn, Below.heap_setCell _ _ _ _ hn, Below.heap_setCell _ _ _ _ hn, Below.heap_setCell _ _ _ _ hn]
  exact h1
set_option maxHeartbeats 8000000 in
set_option maxRecDepth 100000 in
theorem mwrite_bad (v : MsV) (a : Option Addr) (n c : Nat) (l : List Rd) (n8 : Nat) (d : List UInt8) (w : World) (hM : MsIn w v) (hS : SizesAt w) (hE : chkM v.m ≠ 0) :
    Calls Tryz.prog 7 #[msV v, .slice a n c] w (WriteP (writeE v.m l) v.m.id v.m.lo n8 d w) := by
  have HR : Hid (writeE v.m l = chkM v.m) := Hid.mk (by unfold writeE; rw [if_pos hE])
  have HB0 := Hid.mk (six_B0 w v)
  have HS0 := Hid.mk (six_S0 w v)
  have HC := Hid.mk (mcheck_any v _ (hM.kept HB0.out) (hS.kept HB0.out))
  generalize writeE v.m l = WE at *
  generalize chkM v.m = E at *
  obtain ⟨⟨mid, mlo, mnm, size, mch, sigs⟩, ma, mn, mcap⟩ := v
  unfold msC at HB0 HS0 HC
  unfold msV at HC ⊢
  simp only at HB0 HS0 HC ⊢
  have hne : (E != 0) = true := by simpa using hE
  have HE := Hid.mk hE
  clear hM hS hE
  go_enter Tryz.func7, Tryz.ntmps7
  go_wp2_with fail
  refine HC.out.mono ?_
  rintro e w1 ⟨rfl, hb1⟩
  have HB1 := Hid.mk (bl2 HB0.out hb1)
  have HS1 := Hid.mk (HS0.out.kept hb1)
  clear hb1
  obtain ⟨⟨z0, z1, z2, z3, z4, z5⟩, y0, y1, y2, y3, y4, y5⟩ := HS1.out.cells
  obtain ⟨⟨p1, q1⟩, ⟨p2, q2⟩, ⟨p3, q3⟩, ⟨p4, q4⟩, ⟨p5, q5⟩, hSX⟩ := HS1.out.store (.int .i64 0) (.bool false) (.bool false) (.bool false) (.int .i64 0) (.slice none 0 0)
  have HSX := Hid.mk hSX
  clear hSX
  go_wp2_with fail
  refine bodyPost_ret (mw_res _ _ (w.heap.size + 1) _ _ _ _ _ _ _ rfl rfl HSX.out) rfl ?_
  refine ⟨six_B HB1.out (Nat.le_succ _) _ _ _ _ _ _, .inl ?_⟩
  exact ⟨by rw [HR.out]; exact HE.out, by rw [HR.out]; rfl⟩
end Bw
end Go.Proofs.YtlnkhlifkooohaaGreatDoor
namespace Go.Proofs.YtlnkhlifkooohaaGreatDoor
open Go.ChangeShapes Go.WideShapes Go.ChangeAt Go.RowKit
namespace Bw
open Sm
set_option maxHeartbeats 16000000 in
set_option maxRecDepth 100000 in
theorem mwrite_ok (v : MsV) (a : Option Addr) (n c : Nat) (l : List Rd) (n8 : Nat) (w : World) (hM : MsIn w v) (hS : SizesAt w) (hF : IsRds w a n c l) (hnm : ∀ r ∈ l, r.nm.size ≤ maxLen) (hE : chkM v.m = 0) (hn8 : v.m.size = n8) :
    Calls Tryz.prog 7 #[msV v, .slice a n c] w (WriteP (writeE v.m l) v.m.id v.m.lo n8 (fillE (putW l) v.m).2 w) := by
  have hO := chkM_ok hE
  have HR : Hid (writeE v.m l = if dupE l ≠ 0 then 9 else if (fillE (putW l) v.m).1 ≠ 0 then (fillE (putW l) v.m).1 else if (usedL (putW l) v.m).length < l.length then 8 else 0) := Hid.mk (by unfold writeE; rw [if_neg (by rw [hE]; simp)])
  have HB0 := Hid.mk (six_B0 w v)
  have HS0 := Hid.mk (six_S0 w v)
  have HM0 := Hid.mk (six_M0 w v)
  have hC := mcheck_any v _ (hM.kept HB0.out) (hS.kept HB0.out)
  rw [hE] at hC
  have HC := Hid.mk hC
  have HBN := Hid.mk (fun W (hb : Below w.heap.size w W) => byName_any a n c l W (hF.kept hb) hnm)
  have HFL := Hid.mk (fun g bm W (hb : Below w.heap.size w W) (hI : WrI l g bm W []) => fill_any 30 #[.pointer (some ⟨g, 0, none⟩)] enter_putW (putW l) (WrI l g bm) bm v n8 W (hM.kept hb) hO hn8
    (fun W used s a c d hI hs hnu hD => putW_any l s g bm used a n8 c d W hI (hM.wf s hs) (by
      obtain ⟨i, hi, rfl⟩ := List.getElem_of_mem hs
      have := hO.sig hi
      unfold Msg.at at this
      rw [getD_at hi] at this
      exact nm_small this) hnu hD (by
      obtain ⟨i, hi, rfl⟩ := List.getElem_of_mem hs
      have := hO.sig hi
      unfold Msg.at at this
      rw [getD_at hi, hn8] at this
      exact this))
    (fun W W' used h hb => h.kept hb) (fun W used h => by
      obtain ⟨_, k, D, h1, _⟩ := h
      exact h1.map) hI)
  have hlen : l.length = n := hF.len
  have HLEN := Hid.mk hlen
  have hn63 : (n : Int) ≤ 9223372036854775807 := by have h1 := hF.le; have h2 := hF.max; unfold maxLen at h2; omega
  generalize writeE v.m l = WE at *
  generalize fillE (putW l) v.m = FE at *
  generalize usedL (putW l) v.m = UL at *
  obtain ⟨⟨mid, mlo, mnm, size, mch, sigs⟩, ma, mn, mcap⟩ := v
  unfold msC at HB0 HS0 HC HM0
  unfold msV at HC HFL ⊢
  simp only at HB0 HS0 HC HM0 HFL hn8 ⊢
  subst hn8
  clear hM hS hF hnm hE hC hO hlen
  go_enter Tryz.func7, Tryz.ntmps7
  go_wp2_with fail
  refine HC.out.mono ?_
  rintro e w1 ⟨rfl, hb1⟩
  have HB1 := Hid.mk (bl2 HB0.out hb1)
  have HS1 := Hid.mk (HS0.out.kept hb1)
  have HM1 := Hid.mk (HM0.out.kept hb1)
  clear hb1 HC HB0 HS0 HM0
  go_wp2_with fail
  refine (HBN.out _ HB1.out).mono ?_
  rintro e w2 ⟨rfl, ⟨D, hMap, hTold⟩, hb2⟩
  have HB2 := Hid.mk (bl2 HB1.out hb2)
  have HS2 := Hid.mk (HS1.out.kept hb2)
  have HM2 := Hid.mk (HM1.out.kept hb2)
  have HA2 := Hid.mk (awB1 w2 (.cells #[.map (some w1.heap.size)] 61))
  have HB3 := Hid.mk (bl2 HB2.out HA2.out)
  have HS3 := Hid.mk (HS2.out.kept HA2.out)
  have HM3 := Hid.mk (HM2.out.kept HA2.out)
  have HMAP := Hid.mk (hMap.kept HA2.out)
  have HTOLD := Hid.mk hTold
  have HBM : Hid (w.heap.size ≤ w1.heap.size) := Hid.mk HB1.out.size
  have hg : (w2.alloc (.cells #[.map (some w1.heap.size)] 61)).cell? ⟨w2.heap.size, 0, none⟩ = some (.map (some w1.heap.size)) := cell_of_row _ _ 0 _ _ _ (heap_alloc_new w2 _)
  have HG := Hid.mk hg
  obtain ⟨m0, m1, m2, m3, m4, m5⟩ := HM3.out
  simp only at m0 m1 m2 m3 m4 m5
  have hsle := hTold.le
  have hseq := hTold.eq
  rw [HLEN.out] at hsle hseq
  obtain ⟨sz, hsz⟩ : ∃ sz, sz = Maps.size D := ⟨_, rfl⟩
  have HSZ := Hid.mk hsz
  rw [← hsz] at hsle hseq
  have hszb : (sz : Int) ≤ 9223372036854775807 := by omega
  clear hMap hTold hb2 HBN HM2 HM1 HS1 HS2 HB2 HB1 hsz
  have hdz : dupE l = 0 ↔ NoTwo l := dupE_zero
  have HDZ := Hid.mk hdz
  clear hdz
  by_cases hno : dupE l = 0
  case neg =>
    have hlt : sz < n := by
      rcases Nat.lt_or_ge sz n with h | h
      · exact h
      · exact absurd (HDZ.out.2 (hseq.1 (by omega))) hno
    have hlt' : (sz : Int) < (n : Int) := by omega
    have HV : Hid (WE = 9) := Hid.mk (by rw [HR.out, if_pos hno])
    clear hseq hsle HR hno
    obtain ⟨⟨z0, z1, z2, z3, z4, z5⟩, y0, y1, y2, y3, y4, y5⟩ := HS3.out.cells
    obtain ⟨⟨p1, q1⟩, ⟨p2, q2⟩, ⟨p3, q3⟩, ⟨p4, q4⟩, ⟨p5, q5⟩, hSX⟩ := HS3.out.store (.int .i64 0) (.bool false) (.bool false) (.bool false) (.int .i64 0) (.slice none 0 0)
    have HSX := Hid.mk hSX
    clear hSX
    go_wp2_with (at_len; refine wpList_len_own _ rfl _ 61 rfl 9 44 Tryz.underlying61 RV w1.heap.size n D rfl HMAP.out ?_; rw [← HSZ.out])
    refine bodyPost_ret (mw_res _ _ (w.heap.size + 1) _ _ _ _ _ _ _ rfl rfl HSX.out) rfl ?_
    refine ⟨six_B HB3.out (Nat.le_succ _) _ _ _ _ _ _, .inl ?_⟩
    exact ⟨by rw [HV.out]; decide, by rw [HV.out]; rfl⟩
  case pos =>
    have hnoT := HDZ.out.1 hno
    have hge : sz = n := hseq.2 hnoT
    have hge' : (n : Int) ≤ (sz : Int) := by omega
    have HLT := Hid.mk (HTOLD.out.left hnoT)
    have HR1 : Hid (WE = if FE.1 ≠ 0 then FE.1 else if UL.length < l.length then 8 else 0) := Hid.mk (by rw [HR.out, if_neg (by rw [hno]; simp)])
    have HFI := Hid.mk (HFL.out w2.heap.size w1.heap.size _ HB3.out ⟨HG.out, n, D, HMAP.out, HLT.out⟩)
    clear hseq hsle HR hge HFL hno hnoT
    go_wp2_with (at_len; refine wpList_len_own _ rfl _ 61 rfl 9 44 Tryz.underlying61 RV w1.heap.size n D rfl HMAP.out ?_; rw [← HSZ.out])
    refine HFI.out.mono ?_
    rintro e w4 ⟨hG4, hcase⟩
    have HG4 := Hid.mk hG4
    have HB4 := Hid.mk (HB3.out.grown hG4.grown HB3.out.size (fun j hj => by cases hj; exact HBM.out))
    have HS4 := Hid.mk (HS3.out.keptG hG4)
    have HM4 := Hid.mk (HM3.out.keptC hG4.ck)
    obtain ⟨m0, m1, m2, m3, m4, m5⟩ := HM4.out
    simp only at m0 m1 m2 m3 m4 m5
    have hgc := hG4.ck _ _ HG.out
    clear hG4 HFI
    rcases hcase with ⟨hne, rfl⟩ | ⟨hz, a', c', rfl, hB', hI'⟩
    · have hne' : (FE.1 != 0) = true := by simpa using hne
      have HV : Hid (WE = FE.1) := Hid.mk (by rw [HR1.out, if_pos hne])
      have HNE := Hid.mk hne
      clear hne
      obtain ⟨⟨z0, z1, z2, z3, z4, z5⟩, y0, y1, y2, y3, y4, y5⟩ := HS4.out.cells
      obtain ⟨⟨p1, q1⟩, ⟨p2, q2⟩, ⟨p3, q3⟩, ⟨p4, q4⟩, ⟨p5, q5⟩, hSX⟩ := HS4.out.store (.int .i64 0) (.bool false) (.bool false) (.bool false) (.int .i64 0) (.slice none 0 0)
      have HSX := Hid.mk hSX
      clear hSX
      go_wp2_with fail
      refine bodyPost_ret (mw_res _ _ (w.heap.size + 1) _ _ _ _ _ _ _ rfl rfl HSX.out) rfl ?_
      refine ⟨six_B HB4.out (Nat.le_succ _) _ _ _ _ _ _, .inl ?_⟩
      exact ⟨by rw [HV.out]; exact HNE.out, by rw [HV.out]; rfl⟩
    · have HR2 : Hid (WE = if UL.length < l.length then 8 else 0) := Hid.mk (by rw [HR1.out, if_neg (by rw [hz]; simp)])
      obtain ⟨hgI, k, D', hMap', hLeft'⟩ := hI'
      have HMAP' := Hid.mk hMap'
      have hsize' := hLeft'.size
      obtain ⟨s2, hs2⟩ : ∃ s2, s2 = Maps.size D' := ⟨_, rfl⟩
      rw [← hs2, HLEN.out] at hsize'
      have HS2 := Hid.mk hs2
      have HB' := Hid.mk hB'
      have hs2b : (s2 : Int) ≤ 9223372036854775807 := by omega
      clear hz hB' hMap' hLeft' hs2 HR1 hgI
      by_cases hlt : UL.length < l.length
      · have HV : Hid (WE = 8) := Hid.mk (by rw [HR2.out, if_pos hlt])
        have hp0 : (0 : Int) < (s2 : Int) := by rw [HLEN.out] at hlt; omega
        obtain ⟨Z, hZ⟩ : ∃ Z : Int, Z = (s2 : Int) := ⟨_, rfl⟩
        have hp : 0 < Z := by rw [hZ]; exact hp0
        have hpz : Z ≤ 9223372036854775807 := by rw [hZ]; exact hs2b
        have HZ : Hid (((Maps.size D' : Nat) : Int) = Z) := Hid.mk (by rw [← HS2.out, hZ])
        clear hlt hsize' hp0 hZ hs2b
        obtain ⟨⟨z0, z1, z2, z3, z4, z5⟩, y0, y1, y2, y3, y4, y5⟩ := HS4.out.cells
        obtain ⟨⟨p1, q1⟩, ⟨p2, q2⟩, ⟨p3, q3⟩, ⟨p4, q4⟩, ⟨p5, q5⟩, hSX⟩ := HS4.out.store (.int .i64 0) (.bool false) (.bool false) (.bool false) (.int .i64 0) (.slice none 0 0)
        have HSX := Hid.mk hSX
        clear hSX
        go_wp2_with (at_len; refine wpList_len_own _ rfl _ 61 rfl 9 44 Tryz.underlying61 RV w1.heap.size k D' rfl HMAP'.out ?_; rw [HZ.out])
        refine bodyPost_ret (mw_res _ _ (w.heap.size + 1) _ _ _ _ _ _ _ rfl rfl HSX.out) rfl ?_
        refine ⟨six_B HB4.out (Nat.le_succ _) _ _ _ _ _ _, .inl ?_⟩
        exact ⟨by rw [HV.out]; decide, by rw [HV.out]; rfl⟩
      · have HV : Hid (WE = 0) := Hid.mk (by rw [HR2.out, if_neg hlt])
        have hp : s2 = 0 := by rw [HLEN.out] at hlt; omega
        subst hp
        clear hlt hsize'
        obtain ⟨⟨z0, z1, z2, z3, z4, z5⟩, y0, y1, y2, y3, y4, y5⟩ := HS4.out.cells
        obtain ⟨⟨p1, q1⟩, ⟨p2, q2⟩, ⟨p3, q3⟩, ⟨p4, q4⟩, ⟨p5, q5⟩, hSX⟩ := HS4.out.store (.int .i64 mid) (.bool mlo) (.bool false) (.bool false) (.int .i64 0) (.slice a' n8 c')
        have HSX := Hid.mk hSX
        have HBX : Hid (IsBytes (((((((w4.setCell ⟨w.heap.size + 1, 0, none⟩ (.int .i64 mid))).setCell ⟨w.heap.size + 1, 1, none⟩ (.bool mlo)).setCell ⟨w.heap.size + 1, 2, none⟩ (.bool false)).setCell ⟨w.heap.size + 1, 3, none⟩ (.bool false)).setCell ⟨w.heap.size + 1, 4, none⟩ (.int .i64 0)).setCell ⟨w.heap.size + 1, 5, none⟩ (.slice a' n8 c')) a' n8 c' FE.2) := Hid.mk (bytes_six HS4.out HB'.out _ _ _ _ _ _)
        clear hSX
        go_wp2_with (at_len; refine wpList_len_own _ rfl _ 61 rfl 9 44 Tryz.underlying61 RV w1.heap.size k D' rfl HMAP'.out ?_; rw [← HS2.out])
        refine bodyPost_ret (mw_res _ _ (w.heap.size + 1) _ _ _ _ _ _ _ rfl rfl HSX.out) rfl ?_
        refine ⟨six_B HB4.out (Nat.le_succ _) _ _ _ _ _ _, .inr ⟨HV.out, a', c', rfl, HBX.out⟩⟩
end Bw
end Go.Proofs.YtlnkhlifkooohaaGreatDoor
namespace Go.Proofs.YtlnkhlifkooohaaGreatDoor
open Go.ChangeShapes Go.WideShapes Go.ChangeAt Go.RowKit
namespace Bw
open Bm

def HasBytes (w : World) (a : Option Addr) (n : Nat) (l : List UInt8) : Prop :=
  (a = none → n = 0) ∧ ∀ x, a = some x → ∀ i, i < n → w.cell? (x.add i) = some (.int .u8 (l.getD i 0).toNat)

set_option maxHeartbeats 1000000 in
theorem equalB_true (w : World) (a b : Option Addr) (n c d : Nat) (l : List UInt8) (hn : n ≤ maxLen) (ha : HasBytes w a n l) (hb : HasBytes w b n l) :
    Calls Tryz.prog 38 #[.slice a n c, .slice b n d] w fun e w' => e = .returned (.bool true) ∧ Below w.heap.size w w' := by
  have HA := Hid.mk ha
  have HB := Hid.mk hb
  unfold maxLen at hn
  clear ha hb
  go_enter Tryz.func38, Tryz.ntmps38
  go_wp2
  go_loopw [13] (fun i w' => ∃ k : Nat, k ≤ n ∧ i = .int .i64 k ∧ ∃ m, w' = w.drewN m) (fun i _ => n - (intOf i).toNat)
  case atStart => exact ⟨0, Nat.zero_le _, rfl, 0, rfl⟩
  case round =>
    obtain ⟨k, hk, rfl, m, rfl⟩ := hrel
    by_cases hlt : k < n
    · cases a with
      | none => exact absurd (HA.out.1 rfl) (by omega)
      | some x =>
        cases b with
        | none => exact absurd (HB.out.1 rfl) (by omega)
        | some y =>
          have g1 := HA.out.2 x rfl k hlt
          have g2 := HB.out.2 y rfl k hlt
          have hlt' : (k : Int) < (n : Int) := by omega
          go_wp2
          go_quiet (fail)
          go_wp2
          go_roundw
          case rel => exact ⟨k + 1, by omega, by go_num, _, rfl⟩
          case measure => simp [intOf]; omega
    · go_wp2
      go_ret
      exact ⟨rfl, ⟨rfl, rfl, rfl, Nat.le_refl _, fun _ _ => rfl⟩⟩
end Bw
end Go.Proofs.YtlnkhlifkooohaaGreatDoor
namespace Go.Proofs.YtlnkhlifkooohaaGreatDoor
open Go.ChangeShapes Go.WideShapes Go.ChangeAt Go.RowKit
namespace Bw
open Sm
set_option maxHeartbeats 2000000 in
set_option maxRecDepth 100000 in
theorem equalRd_true (w : World) (a b : Option Addr) (n c d : Nat) (l : List Rd) (ha : IsRds w a n c l) (hb : IsRds w b n d l) :
    Calls Tryz.prog 37 #[.slice a n c, .slice b n d] w fun e w' => e = .returned (.bool true) ∧ Below w.heap.size w w' := by
  have hn63 : n ≤ 9223372036854775807 := by have h1 := ha.le; have h2 := ha.max; unfold maxLen at h2; omega
  have HA := Hid.mk ha
  have HB := Hid.mk hb
  clear ha hb
  go_enter Tryz.func37, Tryz.ntmps37
  go_wp2
  go_loopw [13] (fun i w' => ∃ k : Nat, k ≤ n ∧ i = .int .i64 k ∧ ∃ m, w' = w.drewN m) (fun i _ => n - (intOf i).toNat)
  case atStart => exact ⟨0, Nat.zero_le _, rfl, 0, rfl⟩
  case round =>
    obtain ⟨k, hk, rfl, m, rfl⟩ := hrel
    by_cases hlt : k < n
    · obtain ⟨x, hx⟩ := HA.out.some hlt
      obtain ⟨y, hy⟩ := HB.out.some hlt
      cases hx
      cases hy
      obtain ⟨g1, g2, g3⟩ := HA.out.at hlt
      obtain ⟨h1, h2, h3⟩ := HB.out.at hlt
      generalize l.getD k noR = z at *
      obtain ⟨znm, znum, zden⟩ := z
      simp only at g1 g2 g3 h1 h2 h3
      have hlt' : (k : Int) < (n : Int) := by omega
      go_wp2
      go_quiet (fail)
      go_wp2
      go_roundw
      case rel => exact ⟨k + 1, by omega, by go_num, _, rfl⟩
      case measure => simp [intOf]; omega
    · go_wp2
      go_ret
      exact ⟨rfl, ⟨rfl, rfl, rfl, Nat.le_refl _, fun _ _ => rfl⟩⟩
def SixM (w : World) (g : Nat) (c0 c1 c2 c3 c4 c5 : Value) : Prop := w.heap[g]? = some (.cells #[c0, c1, c2, c3, c4, c5] 24 (0, 0))
theorem SixM.lt {w : World} {g : Nat} {c0 c1 c2 c3 c4 c5 : Value} (h : SixM w g c0 c1 c2 c3 c4 c5) : g < w.heap.size := (Array.getElem?_eq_some_iff.1 h).1
theorem SixM.kept {w w' : World} {g : Nat} {c0 c1 c2 c3 c4 c5 : Value} (h : SixM w g c0 c1 c2 c3 c4 c5) (hb : Below w.heap.size w w') : SixM w' g c0 c1 c2 c3 c4 c5 := by unfold SixM; rw [hb.block g h.lt]; exact h
theorem SixM.cells {w : World} {g : Nat} {c0 c1 c2 c3 c4 c5 : Value} (h : SixM w g c0 c1 c2 c3 c4 c5) : (w.cell? ⟨g, 0, none⟩ = some c0 ∧ w.cell? ⟨g, 1, none⟩ = some c1 ∧ w.cell? ⟨g, 2, none⟩ = some c2 ∧ w.cell? ⟨g, 3, none⟩ = some c3 ∧ w.cell? ⟨g, 4, none⟩ = some c4 ∧ w.cell? ⟨g, 5, none⟩ = some c5) ∧ (w.frozen? ⟨g, 0, none⟩ = false ∧ w.frozen? ⟨g, 1, none⟩ = false ∧ w.frozen? ⟨g, 2, none⟩ = false ∧ w.frozen? ⟨g, 3, none⟩ = false ∧ w.frozen? ⟨g, 4, none⟩ = false ∧ w.frozen? ⟨g, 5, none⟩ = false) :=
  ⟨⟨cell_of_row _ _ 0 _ _ _ h, cell_of_row _ _ 1 _ _ _ h, cell_of_row _ _ 2 _ _ _ h, cell_of_row _ _ 3 _ _ _ h, cell_of_row _ _ 4 _ _ _ h, cell_of_row _ _ 5 _ _ _ h⟩, ⟨frozen_of_row _ _ 0 _ _ h, frozen_of_row _ _ 1 _ _ h, frozen_of_row _ _ 2 _ _ h, frozen_of_row _ _ 3 _ _ h, frozen_of_row _ _ 4 _ _ h, frozen_of_row _ _ 5 _ _ h⟩⟩
theorem SixM.store {w : World} {g : Nat} {c0 c1 c2 c3 c4 c5 : Value} (h : SixM w g c0 c1 c2 c3 c4 c5) (d0 d1 d2 d3 d4 d5 : Value) :
    ((w.setCell ⟨g, 0, none⟩ d0).cell? ⟨g, 1, none⟩ = some c1 ∧ (w.setCell ⟨g, 0, none⟩ d0).frozen? ⟨g, 1, none⟩ = false) ∧ (((w.setCell ⟨g, 0, none⟩ d0).setCell ⟨g, 1, none⟩ d1).cell? ⟨g, 2, none⟩ = some c2 ∧ ((w.setCell ⟨g, 0, none⟩ d0).setCell ⟨g, 1, none⟩ d1).frozen? ⟨g, 2, none⟩ = false) ∧ ((((w.setCell ⟨g, 0, none⟩ d0).setCell ⟨g, 1, none⟩ d1).setCell ⟨g, 2, none⟩ d2).cell? ⟨g, 3, none⟩ = some c3 ∧ (((w.setCell ⟨g, 0, none⟩ d0).setCell ⟨g, 1, none⟩ d1).setCell ⟨g, 2, none⟩ d2).frozen? ⟨g, 3, none⟩ = false) ∧ (((((w.setCell ⟨g, 0, none⟩ d0).setCell ⟨g, 1, none⟩ d1).setCell ⟨g, 2, none⟩ d2).setCell ⟨g, 3, none⟩ d3).cell? ⟨g, 4, none⟩ = some c4 ∧ ((((w.setCell ⟨g, 0, none⟩ d0).setCell ⟨g, 1, none⟩ d1).setCell ⟨g, 2, none⟩ d2).setCell ⟨g, 3, none⟩ d3).frozen? ⟨g, 4, none⟩ = false) ∧ ((((((w.setCell ⟨g, 0, none⟩ d0).setCell ⟨g, 1, none⟩ d1).setCell ⟨g, 2, none⟩ d2).setCell ⟨g, 3, none⟩ d3).setCell ⟨g, 4, none⟩ d4).cell? ⟨g, 5, none⟩ = some c5 ∧ (((((w.setCell ⟨g, 0, none⟩ d0).setCell ⟨g, 1, none⟩ d1).setCell ⟨g, 2, none⟩ d2).setCell ⟨g, 3, none⟩ d3).setCell ⟨g, 4, none⟩ d4).frozen? ⟨g, 5, none⟩ = false) ∧ SixM ((((((w.setCell ⟨g, 0, none⟩ d0).setCell ⟨g, 1, none⟩ d1).setCell ⟨g, 2, none⟩ d2).setCell ⟨g, 3, none⟩ d3).setCell ⟨g, 4, none⟩ d4).setCell ⟨g, 5, none⟩ d5) g d0 d1 d2 d3 d4 d5 := by
  have e0 : w.heap[g]? = some (.cells #[c0, c1, c2, c3, c4, c5] 24 (0, 0)) := h
  have e1 := heap_setCell_same _ g 0 _ _ d0 e0
  have e2 := heap_setCell_same _ g 1 _ _ d1 e1
  have e3 := heap_setCell_same _ g 2 _ _ d2 e2
  have e4 := heap_setCell_same _ g 3 _ _ d3 e3
  have e5 := heap_setCell_same _ g 4 _ _ d4 e4
  have e6 := heap_setCell_same _ g 5 _ _ d5 e5
  exact ⟨⟨cell_of_row _ _ 1 _ _ _ e1, frozen_of_row _ _ 1 _ _ e1⟩, ⟨cell_of_row _ _ 2 _ _ _ e2, frozen_of_row _ _ 2 _ _ e2⟩, ⟨cell_of_row _ _ 3 _ _ _ e3, frozen_of_row _ _ 3 _ _ e3⟩, ⟨cell_of_row _ _ 4 _ _ _ e4, frozen_of_row _ _ 4 _ _ e4⟩, ⟨cell_of_row _ _ 5 _ _ _ e5, frozen_of_row _ _ 5 _ _ e5⟩, e6⟩
theorem sixm_B {B : Nat} {a w : World} (h : Below B a w) {g : Nat} (hg : B ≤ g) (d0 d1 d2 d3 d4 d5 : Value) : Below B a ((((((w.setCell ⟨g, 0, none⟩ d0).setCell ⟨g, 1, none⟩ d1).setCell ⟨g, 2, none⟩ d2).setCell ⟨g, 3, none⟩ d3).setCell ⟨g, 4, none⟩ d4).setCell ⟨g, 5, none⟩ d5) :=
  ((((((((((((h).setCell (p := ⟨g, 0, none⟩) hg d0)).setCell (p := ⟨g, 1, none⟩) hg d1)).setCell (p := ⟨g, 2, none⟩) hg d2)).setCell (p := ⟨g, 3, none⟩) hg d3)).setCell (p := ⟨g, 4, none⟩) hg d4)).setCell (p := ⟨g, 5, none⟩) hg d5)

theorem msg_i : (Tryz.prog.info? 24).map (·.size) = some 6 := by kernel_rfl
theorem sig_iM : (Tryz.prog.info? 42).map (·.size) = some 9 := by kernel_rfl
def enS (nm : ByteArray) (st ky : Int) : Sig := ⟨nm, st, 8, false, false, 1, 1, 0, ky⟩
def enL : List Sig := [enS ⟨#[119, 104, 105, 99, 104]⟩ 0 (-1), enS ⟨#[104, 101, 97, 116]⟩ 8 0, enS ⟨#[108, 111, 97, 100]⟩ 8 1]
def enM : Msg := ⟨100, false, ⟨#[101, 110, 103, 105, 110, 101]⟩, 2, 0, enL⟩
theorem enter_en : ∀ args w, (callFunc 87 args).run Tryz.prog w = .ok (.enter 87 args) w := enters_of Tryz.func87 (by kernel_rfl) rfl
set_option maxHeartbeats 4000000 in
set_option maxRecDepth 100000 in
theorem en1_any (nm : ByteArray) (st ky : Int) (w : World) :
    Calls Tryz.prog 87 #[.string nm, .int .i64 st, .int .i64 ky] w fun e w' => e = .returned (sgV (enS nm st ky)) ∧ Below w.heap.size w w' := by
  have hrow := heap_alloc_new w (sgC (enS nm st ky))
  have HB := Hid.mk (sg_box w (enS nm st ky))
  unfold sgC enS at hrow HB
  simp only at hrow HB
  have HR := Hid.mk hrow
  clear hrow
  go_enter Tryz.func87, Tryz.ntmps87
  go_wp2_with fail
  refine bodyPost_ret (results_cell_row rfl _ _ w.heap.size _ _ _ _ rfl HR.out Tryz.underlying42 rfl sig_iM) rfl ?_
  exact ⟨rfl, HB.out⟩
def enC : Obj := .cells #[.string ⟨#[119, 104, 105, 99, 104]⟩, .int .i64 0, .int .i64 8, .bool false, .bool false, .int .i64 1, .int .i64 1, .int .i64 0, .int .i64 (-1), .string ⟨#[104, 101, 97, 116]⟩, .int .i64 8, .int .i64 8, .bool false, .bool false, .int .i64 1, .int .i64 1, .int .i64 0, .int .i64 0, .string ⟨#[108, 111, 97, 100]⟩, .int .i64 8, .int .i64 8, .bool false, .bool false, .int .i64 1, .int .i64 1, .int .i64 0, .int .i64 1] 42
theorem en_sigs (w : World) : IsSigs (w.alloc enC) (some ⟨w.heap.size, 0, none⟩) 3 3 enL := by
  refine ⟨rfl, Nat.le_refl _, by decide, (fun h => by cases h), fun x hx i hi k hk => ?_⟩
  cases hx
  have ea : ∀ j, (Addr.add ⟨w.heap.size, 0, none⟩ j) = ⟨w.heap.size, j, none⟩ := by intro j; simp [Addr.add]; exact fun h => h.symm
  rw [ea, cell_of_row _ _ (i * 9 + k) _ _ _ (heap_alloc_new w enC)]
  have h3 : i < 3 := hi
  match i, h3 with
  | 0, _ => (match k, hk with | 0, _ => rfl | 1, _ => rfl | 2, _ => rfl | 3, _ => rfl | 4, _ => rfl | 5, _ => rfl | 6, _ => rfl | 7, _ => rfl | 8, _ => rfl)
  | 1, _ => (match k, hk with | 0, _ => rfl | 1, _ => rfl | 2, _ => rfl | 3, _ => rfl | 4, _ => rfl | 5, _ => rfl | 6, _ => rfl | 7, _ => rfl | 8, _ => rfl)
  | 2, _ => (match k, hk with | 0, _ => rfl | 1, _ => rfl | 2, _ => rfl | 3, _ => rfl | 4, _ => rfl | 5, _ => rfl | 6, _ => rfl | 7, _ => rfl | 8, _ => rfl)
theorem en_wf : ∀ s ∈ enL, wfS s := by
  intro s hs
  unfold enL enS at hs
  simp only [List.mem_cons, List.not_mem_nil, or_false] at hs
  rcases hs with rfl | rfl | rfl <;> exact ⟨⟨by decide, by decide⟩, by decide⟩
def enV (g : Nat) : MsV := ⟨enM, some ⟨g, 0, none⟩, 3, 3⟩
set_option maxHeartbeats 4000000 in
set_option maxRecDepth 100000 in
theorem engine_any (w : World) :
    Calls Tryz.prog 36 #[] w fun e w' => ∃ g, e = .returned (msV (enV g)) ∧ MsIn w' (enV g) ∧ Below w.heap.size w w' := by
  have HB0 := Hid.mk (awB1 w (.cells #[.int .i64 0, .bool false, .string ⟨#[]⟩, .int .i64 0, .int .i64 0, .slice none 0 0] 24))
  have HS0 : Hid (SixM (w.alloc (.cells #[.int .i64 0, .bool false, .string ⟨#[]⟩, .int .i64 0, .int .i64 0, .slice none 0 0] 24)) w.heap.size (.int .i64 0) (.bool false) (.string ⟨#[]⟩) (.int .i64 0) (.int .i64 0) (.slice none 0 0)) := Hid.mk (heap_alloc_new w _)
  have HE := Hid.mk (fun nm st ky W => en1_any nm st ky W)
  unfold sgV enS at HE
  simp only at HE
  have hent := enter_en
  go_enter Tryz.func36, Tryz.ntmps36
  go_wp2_with fail
  refine (HE.out _ _ _ _).mono ?_
  rintro e w1 ⟨rfl, hb1⟩
  have HB1 := Hid.mk (bl2 HB0.out hb1)
  have HS1 := Hid.mk (HS0.out.kept hb1)
  clear hb1 HB0 HS0
  go_wp2_with fail
  refine (HE.out _ _ _ _).mono ?_
  rintro e w2 ⟨rfl, hb2⟩
  have HB2 := Hid.mk (bl2 HB1.out hb2)
  have HS2 := Hid.mk (HS1.out.kept hb2)
  clear hb2 HB1 HS1
  go_wp2_with fail
  refine (HE.out _ _ _ _).mono ?_
  rintro e w3 ⟨rfl, hb3⟩
  have HB3 := Hid.mk (bl2 HB2.out hb3)
  have HS3 := Hid.mk (HS2.out.kept hb3)
  have HA3 := Hid.mk (awB1 w3 enC)
  have HROW := Hid.mk (en_sigs w3)
  have HS4 := Hid.mk (HS3.out.kept HA3.out)
  have HB4 := Hid.mk (bl2 HB3.out HA3.out)
  unfold enC at HA3 HROW HS4 HB4
  obtain ⟨⟨z0, z1, z2, z3, z4, z5⟩, y0, y1, y2, y3, y4, y5⟩ := HS4.out.cells
  obtain ⟨⟨p1, q1⟩, ⟨p2, q2⟩, ⟨p3, q3⟩, ⟨p4, q4⟩, ⟨p5, q5⟩, hSX⟩ := HS4.out.store (.int .i64 100) (.bool false) (.string ⟨#[101, 110, 103, 105, 110, 101]⟩) (.int .i64 2) (.int .i64 0) (.slice (some ⟨w3.heap.size, 0, none⟩) 3 3)
  have HSX := Hid.mk hSX
  have HLT : Hid (w.heap.size < w3.heap.size) := Hid.mk HS3.out.lt
  clear hb3 HB2 HS2 hSX
  go_wp2_with fail
  refine bodyPost_ret (results_cell_row rfl _ _ w.heap.size _ _ _ _ rfl HSX.out Tryz.underlying24 rfl msg_i) rfl ?_
  refine ⟨w3.heap.size, rfl, ⟨(show (⟨#[101, 110, 103, 105, 110, 101]⟩ : ByteArray).size ≤ 9223372036854775807 by decide), ?_, en_wf⟩, sixm_B HB4.out (Nat.le_refl _) _ _ _ _ _ _⟩
  have h5 := HROW.out
  refine ⟨h5.len, h5.le, h5.max, h5.none, fun x hx i hi k hk => ?_⟩
  have h6 := h5.cell x hx i hi k hk
  cases hx
  have hne : (Addr.add ⟨w3.heap.size, 0, none⟩ (i * 9 + k)).block ≠ w.heap.size := by
    have : (Addr.add ⟨w3.heap.size, 0, none⟩ (i * 9 + k)).block = w3.heap.size := by unfold Addr.add; split <;> rfl
    rw [this]
    have := HLT.out
    omega
  refine Eq.trans ?_ h6
  unfold World.cell?
  rw [Below.heap_setCell _ _ _ _ hne, Below.heap_setCell _ _ _ _ hne, Below.heap_setCell _ _ _ _ hne, Below.heap_setCell _ _ _ _ hne, Below.heap_setCell _ _ _ _ hne, Below.heap_setCell _ _ _ _ hne]
def enR : List Rd := [⟨⟨#[119, 104, 105, 99, 104]⟩, 1, 1⟩, ⟨⟨#[108, 111, 97, 100]⟩, 7, 1⟩]
theorem en_read : readE enM 100 false false false 0 2 = 0 := by kernel_rfl
theorem en_reads : readsD enM [1, 7] = enR := by kernel_rfl
theorem en_chk : chkM enM = 0 := by kernel_rfl
theorem en_write : writeE enM enR = 0 := by kernel_rfl
theorem en_data : (fillE (putW enR) enM).2 = [1, 7] := by kernel_rfl
def b2C : Obj := .cells #[.int .u8 1, .int .u8 7] 5
theorem b2_at (w : World) : IsBytes (w.alloc b2C) (some ⟨w.heap.size, 0, none⟩) 2 2 [1, 7] := by
  refine ⟨rfl, Nat.le_refl _, by unfold maxLen; omega, (fun h => by cases h), fun a ha i hi => ?_⟩
  cases ha
  rw [Addr.add_lit, Nat.zero_add, cell_of_row _ _ i _ _ _ (heap_alloc_new w b2C)]
  match i, hi with
  | 0, _ => rfl
  | 1, _ => rfl
def r2C : Obj := .cells #[.string ⟨#[119, 104, 105, 99, 104]⟩, .int .i64 1, .int .i64 1, .string ⟨#[108, 111, 97, 100]⟩, .int .i64 7, .int .i64 1] 44
theorem r2_at (w : World) : IsRds (w.alloc r2C) (some ⟨w.heap.size, 0, none⟩) 2 2 enR := by
  refine ⟨rfl, Nat.le_refl _, by decide, (fun h => by cases h), fun x hx i hi k hk => ?_⟩
  cases hx
  have ea : ∀ j, (Addr.add ⟨w.heap.size, 0, none⟩ j) = ⟨w.heap.size, j, none⟩ := by intro j; simp [Addr.add]; exact fun h => h.symm
  rw [ea, cell_of_row _ _ (i * 3 + k) _ _ _ (heap_alloc_new w r2C)]
  have h3 : i < 2 := hi
  match i, h3 with
  | 0, _ => (match k, hk with | 0, _ => rfl | 1, _ => rfl | 2, _ => rfl)
  | 1, _ => (match k, hk with | 0, _ => rfl | 1, _ => rfl | 2, _ => rfl)
theorem hasBM {w : World} {a : Option Addr} {n c : Nat} {l : List UInt8} (h : IsBytes w a n c l) : HasBytes w a n l := ⟨h.2.2.2.1, h.2.2.2.2⟩
theorem f6_new (w : World) (a : Option Addr) (n c : Nat) : (w.alloc (.cells #[.int .i64 100, .bool false, .bool false, .bool false, .int .i64 0, .slice a n c] 28)).cell? ⟨w.heap.size, 5, none⟩ = some (.slice a n c) := cell_of_row _ _ 5 _ _ _ (heap_alloc_new w _)
set_option maxHeartbeats 8000000 in
set_option maxRecDepth 100000 in
theorem meant_any (w : World) (hS : SizesAt w) :
    Calls Tryz.prog 9 #[] w fun e w' => e = .returned (.bool true) ∧ Below w.heap.size w w' := by
  have HE := Hid.mk (fun W => engine_any W)
  have hRd := fun g a c W (hM : MsIn W (enV g)) (hS : SizesAt W) (hD : IsBytes W a 2 c [1, 7]) => mread_ok (enV g) 100 false false false 0 a 2 c [1, 7] W hM hS hD en_read
  have e1 : ∀ g, readsD (enV g).m [1, 7] = enR := fun _ => en_reads
  simp only [e1] at hRd
  have HRD := Hid.mk hRd
  have hWr := fun g a c W (hM : MsIn W (enV g)) (hS : SizesAt W) (hF : IsRds W a 2 c enR) => mwrite_ok (enV g) a 2 c enR 2 W hM hS hF (by intro r hr; unfold enR at hr; simp only [List.mem_cons, List.not_mem_nil, or_false] at hr; rcases hr with rfl | rfl <;> decide) en_chk rfl
  have e2 : ∀ g, writeE (enV g).m enR = 0 := fun _ => en_write
  have e3 : ∀ g, (fillE (putW enR) (enV g).m).2 = [1, 7] := fun _ => en_data
  simp only [e2, e3] at hWr
  have HWR := Hid.mk hWr
  have HSZ := Hid.mk hS
  clear hRd hWr e1 e2 e3 hS
  unfold msV enV enM frameV at HRD
  unfold msV enV enM at HE HWR
  simp only at HRD HE HWR
  go_enter Tryz.func9, Tryz.ntmps9
  go_wp2_with fail
  refine (HE.out _).mono ?_
  rintro e w1 ⟨g, rfl, hM1, hb1⟩
  have HB1 := Hid.mk hb1
  have HA1 := Hid.mk (awB1 w1 b2C)
  have HD1 := Hid.mk (b2_at w1)
  have HRR := Hid.mk (HRD.out g _ _ _ (hM1.kept HA1.out) (HSZ.out.kept (bl2 hb1 HA1.out)) HD1.out)
  have HB2 := Hid.mk (bl2 hb1 HA1.out)
  unfold b2C at HRR HB2
  clear hb1 hM1 HRD HD1 HA1
  go_wp2_with fail
  refine HRR.out.mono ?_
  rintro e w2 ⟨u, rfl, hown, hb2⟩
  obtain ⟨ua, uc, rfl, hR2⟩ := rds_own hown
  have HB3 := Hid.mk (bl2 HB2.out hb2)
  have HR3 := Hid.mk (show IsRds w2 ua 2 uc enR from hR2)
  clear hown hb2 hR2 HB2 HRR
  go_wp2_with fail
  refine (HE.out _).mono ?_
  rintro e w3 ⟨g3, rfl, hM3, hb3⟩
  have HB4 := Hid.mk (bl2 HB3.out hb3)
  have HR4 := Hid.mk (HR3.out.kept hb3)
  have HWW := Hid.mk (HWR.out g3 ua uc w3 hM3 (HSZ.out.kept HB4.out) HR4.out)
  clear hb3 hM3 HWR HR3 HB3
  go_wp2_with fail
  refine HWW.out.mono ?_
  rintro e w4 ⟨hb4, hcase⟩
  rcases hcase with ⟨hne, _⟩ | ⟨_, fa, fc, rfl, hF4⟩
  · exact absurd rfl hne
  have HB5 := Hid.mk (bl2 HB4.out hb4)
  have HR5 := Hid.mk (HR4.out.kept hb4)
  have HA5 := Hid.mk (awB1 w4 (.cells #[.int .i64 100, .bool false, .bool false, .bool false, .int .i64 0, .slice fa 2 fc] 28))
  have HF5 := Hid.mk (f6_new w4 fa 2 fc)
  have HA6 := Hid.mk (awB1 (w4.alloc (.cells #[.int .i64 100, .bool false, .bool false, .bool false, .int .i64 0, .slice fa 2 fc] 28)) r2C)
  have HQ := Hid.mk (equalRd_true _ ua (some ⟨w4.heap.size + 1, 0, none⟩) 2 uc 2 enR (HR5.out.kept (bl2 HA5.out HA6.out)) (by
    have := r2_at (w4.alloc (.cells #[.int .i64 100, .bool false, .bool false, .bool false, .int .i64 0, .slice fa 2 fc] 28))
    rw [show (w4.alloc (.cells #[.int .i64 100, .bool false, .bool false, .bool false, .int .i64 0, .slice fa 2 fc] 28)).heap.size = w4.heap.size + 1 by simp] at this
    exact this))
  have HD6 := Hid.mk (isBytes_below hF4 (bl2 HA5.out HA6.out))
  have HF6 := Hid.mk (cell_kept HA6.out HF5.out)
  have HB6 := Hid.mk (bl2 HB5.out (bl2 HA5.out HA6.out))
  unfold r2C at HQ HD6 HF6 HB6
  unfold frameV
  clear hb4 hF4 HWW HR4 HB4
  go_wp2_with fail
  refine HQ.out.mono ?_
  rintro e w5 ⟨rfl, hb5⟩
  have HB7 := Hid.mk (bl2 HB6.out hb5)
  have hf5 := cell_kept hb5 HF6.out
  have HA7 := Hid.mk (awB1 w5 b2C)
  have HQ2 := Hid.mk (equalB_true (w5.alloc b2C) fa (some ⟨w5.heap.size, 0, none⟩) 2 fc 2 [1, 7] (by unfold maxLen; omega) (hasBM (isBytes_below (isBytes_below HD6.out hb5) HA7.out)) (hasBM (b2_at w5)))
  have HB8 := Hid.mk (bl2 HB7.out HA7.out)
  unfold b2C at HQ2 HB8
  clear hb5 HQ
  go_wp2_with fail
  refine HQ2.out.mono ?_
  rintro e w6 ⟨rfl, hb6⟩
  have HB9 := Hid.mk (bl2 HB8.out hb6)
  clear hb6
  go_wp2_with fail
  go_ret
  exact ⟨rfl, HB9.out⟩
end Bw
end Go.Proofs.YtlnkhlifkooohaaGreatDoor
