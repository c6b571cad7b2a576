/- What bytes.Clone and signal.Write answer. -/
import Derived.Test.YtlnkhlifkooohaaGreatDoorSgReadOk
import Derived.Test.YtlnkhlifkooohaaGreatDoorSgPls
import Derived.Lib.SliceRun
namespace Go.Proofs.YtlnkhlifkooohaaGreatDoor
open Go.ChangeShapes Go.WideShapes Go.ChangeAt Go.RowKit Go.Sort
namespace Bw
open Sm
theorem eqlS_some (w : World) (x : Addr) (n cap : Nat) : (binOp .eql 26 (.slice (some x) n cap) (.slice none 0 0)).run Tryz.prog w = .ok (.bool false) w :=
  Lib.run_eql_slice_nil w 26 5 (some x) n cap 0 0 Tryz.underlying26
set_option maxHeartbeats 4000000 in
set_option maxRecDepth 100000 in
/-- a copy, in memory of its own -/
theorem cloneS_any (x : Addr) (len cap : Nat) (dt : List UInt8) (w : World) (hY : IsBytes w (some x) len cap dt) (h1 : 1 ≤ len) (hlen : len ≤ 140737488351232) :
    Calls Tryz.prog 79 #[.slice (some x) len cap] w fun e w' => ∃ g c, e = .returned (.slice (some ⟨g, 0, none⟩) len c) ∧ w'.ownsRow w.heap.size 5 1 (.slice (some ⟨g, 0, none⟩) len c) len (cellsOf dt) ∧ Below w.heap.size w w' := by
  obtain ⟨i0, hi, hz0, hz1, hz2⟩ := info_parts info_u8
  have hB0 : Below w.heap.size w (w.alloc (.cells #[] 5)) := (Below.refl _ _).alloc (Nat.le_refl _) _
  have hY1 := isBytes_below hY hB0
  have hcl : (cellsOf dt).length = len * 1 := by rw [cellsOf_length, hY.1, Nat.mul_one]
  have hce := hY1.2.2.2.2 x rfl
  have hdl := hY.1
  have he := eqlS_some w x len cap
  have hcc : ∀ q u, (cellsOf dt)[q]? = some u → (w.alloc (.cells #[] 5)).cell? (x.add q) = some u := by
    intro q u hq
    have hq1 : q < dt.length := by
      rcases Nat.lt_or_ge q dt.length with hh | hh
      · exact hh
      · rw [List.getElem?_eq_none (by rw [cellsOf_length]; exact hh)] at hq; cases hq
    rw [hce q (by omega)]
    simp [cellsOf, hq1] at hq
    rw [← hq]; simp [List.getD, hq1]
  have HO := Hid.mk (show (w.alloc (.cells #[] 5)).ownsRow w.heap.size 5 1 (.slice (some ⟨w.heap.size, 0, none⟩) 0 0) 0 [] from World.ownsRow_made w #[] 0 (Nat.le_refl _) (Nat.zero_le _) rfl)
  have HB := Hid.mk hB0
  have HCC := Hid.mk hcc
  have HCL := Hid.mk hcl
  clear hY hB0 hY1 hcl hce hcc hdl
  go_enter Tryz.func79, Tryz.ntmps79
  go_wp2_with (at_builtin; refine wpList_append_own _ rfl (.tmp 5) (.tmp 6) 26 rfl w.heap.size 5 i0 (.int .u8 0) 1 1 Tryz.underlying26 hi hz0 hz1 hz2 rfl (by decide) _ _ _ rfl HO.out x len cap (cellsOf dt) rfl HCL.out HCC.out (by intro u hu; simp [cellsOf] at hu; obtain ⟨c, -, rfl⟩ := hu; rfl) (by unfold maxLen; omega) (by omega) (by simp) ?_; intro v3 w3 hown3 hgrow3 hnil3)
  have hown2 : w3.ownsRow w.heap.size 5 1 v3 len (cellsOf dt) := by simpa using hown3
  have hB3 : Below w.heap.size w w3 := Below.grown HB.out hgrow3 (by simp) (fun q hq => (HO.out.lt q hq).1)
  have hown4 := hown2
  obtain ⟨hl, h2⟩ := hown2
  rcases h2 with ⟨rfl, h0⟩ | ⟨g, c, cur, rfl, _⟩
  · omega
  · go_ret
    exact ⟨g, c, rfl, hown4, hB3⟩
theorem putN_ops : ((List.range 256).all fun c => (List.range 8).all fun k => (bits .andNot .u8 (c : Int) (2 ^ k % 256) == (putN c k 0 : Int)) && (List.range 2).all fun b => (bits .or .u8 (putN c k 0 : Int) ((b : Int) * 2 ^ k % 256) == (putN c k b : Int))) = true := by kernel_rfl
theorem op_clear {c k : Nat} (hc : c < 256) (hk : k < 8) : bits .andNot .u8 (c : Int) (2 ^ k % 256) = (putN c k 0 : Int) := by
  have := List.all_eq_true.1 (List.all_eq_true.1 putN_ops c (List.mem_range.2 hc)) k (List.mem_range.2 hk)
  rw [Bool.and_eq_true] at this
  exact eq_of_beq this.1
theorem op_put {c k b : Nat} (hc : c < 256) (hk : k < 8) (hb : b < 2) : bits .or .u8 (putN c k 0 : Int) ((b : Int) * 2 ^ k % 256) = (putN c k b : Int) := by
  have := List.all_eq_true.1 (List.all_eq_true.1 putN_ops c (List.mem_range.2 hc)) k (List.mem_range.2 hk)
  rw [Bool.and_eq_true] at this
  exact eq_of_beq (List.all_eq_true.1 this.2 b (List.mem_range.2 hb))
theorem and1_i64 (x : Int) : bits .and .i64 x 1 = x % 2 := by
  have e : IntKind.i64.bits = 64 := rfl
  have e1 : ((1 : Int) % ((2 ^ 64 : Nat) : Int)).toNat = 1 := rfl
  simp only [bits, BitVec.toNat_and, e, BitVec.toNat_ofInt]
  rw [e1, Nat.and_one_is_mod, IntKind.wrap_i64]
  have e2 : ((2 ^ 64 : Nat) : Int) = 18446744073709551616 := rfl
  rw [e2]
  omega
theorem op_bit (r : Int) (i : Nat) : bits .and .i64 (r / 2 ^ i) 1 = (bitI r i : Int) := by
  rw [and1_i64]
  unfold bitI
  have := Int.emod_nonneg (r / 2 ^ i) (show (2 : Int) ≠ 0 by omega)
  omega
theorem cells_set (l : List UInt8) (p b : Nat) (hb : putN (l.getD (p / 8) 0).toNat (p % 8) b < 256) : (cellsOf l).set (p / 8) (.int .u8 (putN (l.getD (p / 8) 0).toNat (p % 8) b : Int)) = cellsOf (putB l p b) := by
  unfold cellsOf putB
  rw [List.map_set]
  congr 2
  rw [UInt8.toNat_ofNat_of_lt' hb]
theorem cells_at (l : List UInt8) (i : Nat) (h : i < l.length) : (cellsOf l)[i]? = some (.int .u8 ((l.getD i 0).toNat : Int)) := by
  unfold cellsOf
  rw [List.getElem?_map, List.getElem?_eq_getElem h]
  simp [List.getD, h]
theorem put_put (l : List UInt8) (p b : Nat) (hp : p < 8 * l.length) (hb : b < 2) : putB (putB l p 0) p b = putB l p b := by
  apply bits_ext
  · rw [putB_length, putB_length, putB_length]
  · intro q hq
    rw [putB_length, putB_length] at hq
    rw [bitN_put q (by rw [putB_length]; exact hp) hb, bitN_put q hp hb]
    split
    · rfl
    · rename_i h
      rw [bitN_put q hp (by omega), if_neg h]
/-- what Write puts in -/
def wrS (s : Sig) (st sz : Nat) (l : List UInt8) (r : Int) : List UInt8 := wrK (plN s.bk st sz) (bitI r) l sz
theorem wrS_length (s : Sig) (st sz : Nat) (l : List UInt8) (r : Int) : (wrS s st sz l r).length = l.length := wrK_length _ _ _ _
set_option maxHeartbeats 4000000 in
theorem swrite_bad (s : Sig) (a : Option Addr) (len cap : Nat) (num den : Int) (w : World) (h : wfS s) (hlen : len ≤ maxLen) (hE : chkS s len ≠ 0) :
    Calls Tryz.prog 31 #[sgV s, .slice a len cap, .int .i64 num, .int .i64 den] w fun e w' => e = .returned (.tuple #[.slice none 0 0, .int .i64 (chkS s len)]) ∧ Below w.heap.size w w' := by
  have HB := Hid.mk (sg_box w s)
  have hC := fun W => scheck_any s len W h
  have hne : (chkS s len != 0) = true := by simpa using hE
  have hl' : (len : Int) ≤ 9223372036854775807 := by unfold maxLen at hlen; omega
  clear hE hlen
  generalize chkS s len = E at *
  obtain ⟨nm, st, sz, bk, sg, mu, di, ad, ky⟩ := s
  unfold sgC at HB
  unfold sgV at hC ⊢
  simp only at HB hC ⊢
  clear h
  go_enter Tryz.func31, Tryz.ntmps31
  go_wp2_with fail
  refine (hC _).mono ?_
  rintro e w1 ⟨rfl, hb1⟩
  have HB1 := Hid.mk (bl2 HB.out hb1)
  clear hb1
  go_wp2_with fail
  go_ret2
  exact ⟨rfl, HB1.out⟩
set_option maxHeartbeats 4000000 in
theorem swrite_raw (s : Sig) (st sz : Nat) (a : Option Addr) (len cap : Nat) (num den : Int) (w : World) (h : wfS s) (hE : chkS s len = 0) (hR : Rt s st sz len) (hX : rawE s sz num den ≠ 0) :
    Calls Tryz.prog 31 #[sgV s, .slice a len cap, .int .i64 num, .int .i64 den] w fun e w' => e = .returned (.tuple #[.slice none 0 0, .int .i64 (rawE s sz num den)]) ∧ Below w.heap.size w w' := by
  have HB := Hid.mk (sg_box w s)
  have HG := Hid.mk (SgAt.box w s)
  have hC := fun W => scheck_any s len W h
  have hRW := fun W => sraw_any s st sz num den W h (chk_more hE) (hR.more hR.n64 (Nat.le_refl _))
  rw [hE] at hC
  simp only [if_neg hX] at hRW
  have hl' : (len : Int) ≤ 64 := by have := hR.n64; omega
  have hne : (rawE s sz num den != 0) = true := by simpa using hX
  clear hX
  generalize rawE s sz num den = E at *
  obtain ⟨nm, sta, sza, bk, sg, mu, di, ad, ky⟩ := s
  unfold sgC at HB HG
  unfold sgV at hC hRW ⊢
  simp only at HB HG hC hRW ⊢
  clear h hE hR
  go_enter Tryz.func31, Tryz.ntmps31
  go_wp2_with fail
  refine (hC _).mono ?_
  rintro e w1 ⟨rfl, hb1⟩
  have HB1 := Hid.mk (bl2 HB.out hb1)
  obtain ⟨k0, k1, k2, k3, k4, k5, k6, k7, k8⟩ := HG.out.kept hb1
  simp only at k0 k1 k2 k3 k4 k5 k6 k7 k8
  clear hb1
  go_wp2_with fail
  refine (hRW _).mono ?_
  rintro e w2 ⟨rfl, hb2⟩
  have HB2 := Hid.mk (bl2 HB1.out hb2)
  clear hb2
  go_wp2_with fail
  go_ret2
  exact ⟨rfl, HB2.out⟩
set_option maxHeartbeats 16000000 in
set_option maxRecDepth 100000 in
theorem swrite_ok (s : Sig) (st sz : Nat) (a : Option Addr) (len cap : Nat) (l : List UInt8) (num den : Int) (w : World) (h : wfS s) (hD : IsBytes w a len cap l) (hE : chkS s len = 0) (hR : Rt s st sz len) (hX : rawE s sz num den = 0) :
    Calls Tryz.prog 31 #[sgV s, .slice a len cap, .int .i64 num, .int .i64 den] w fun e w' => ∃ g c, e = .returned (.tuple #[.slice (some ⟨g, 0, none⟩) len c, .int .i64 0]) ∧
      w'.ownsRow w.heap.size 5 1 (.slice (some ⟨g, 0, none⟩) len c) len (cellsOf (wrS s st sz l (rawV s num den))) ∧ Below w.heap.size w w' := by
  have HB := Hid.mk (sg_box w s)
  have HG := Hid.mk (SgAt.box w s)
  have hC := fun W => scheck_any s len W h
  have hRW := fun W => sraw_any s st sz num den W h (chk_more hE) (hR.more hR.n64 (Nat.le_refl _))
  rw [hE] at hC
  simp only [hX, if_true] at hRW
  have hst := hR.hst
  have hsz := hR.hsz
  have h1 := hR.s1
  have h40 := hR.s40
  have hstb := hR.st_lt
  have hn64 := hR.n64
  have HP := Hid.mk (fun (k : Nat) (hk : k < sz) W => by
    have := place_any s (k : Int) W (by rw [hst]; omega) (by rw [hsz]; omega) (by rw [hsz]; omega)
    rw [hR.pl hk] at this
    exact this)
  have HPL := Hid.mk (fun (k : Nat) (hk : k < sz) => hR.pl_lt hk)
  unfold wrS
  generalize rawV s num den = r at *
  obtain ⟨nm, sta, sza, bk, sg, mu, di, ad, ky⟩ := s
  simp only at hst hsz
  subst hst
  subst hsz
  unfold sgC at HB HG
  unfold sgV at hC hRW HP ⊢
  simp only at HB HG hC hRW HP HPL ⊢
  have a1 : (1 : Int) ≤ (sz : Int) := by omega
  have a2 : (sz : Int) ≤ 40 := by omega
  have hlen : (len : Int) ≤ 64 := by omega
  have hlen0 : 1 ≤ len := by omega
  have hlen1 : len ≤ 64 := by omega
  cases a with
  | none => exact absurd (hD.2.2.2.1 rfl) (by omega)
  | some x =>
  have HD := Hid.mk hD
  have HLL := Hid.mk hD.1
  clear h hE hR hX hstb hn64 hD
  go_enter Tryz.func31, Tryz.ntmps31
  go_wp2_with fail
  refine (hC _).mono ?_
  rintro e w1 ⟨rfl, hb1⟩
  have HB1 := Hid.mk (bl2 HB.out hb1)
  have HG1 := Hid.mk (HG.out.kept hb1)
  obtain ⟨k0, k1, k2, k3, k4, k5, k6, k7, k8⟩ := HG1.out
  simp only at k0 k1 k2 k3 k4 k5 k6 k7 k8
  clear hb1 HB HG
  go_wp2_with fail
  refine (hRW _).mono ?_
  rintro e w2 ⟨rfl, hb2⟩
  have HB2 := Hid.mk (bl2 HB1.out hb2)
  have HG2 := Hid.mk (HG1.out.kept hb2)
  have HD2 := Hid.mk (isBytes_below HD.out HB2.out)
  clear hb2 HB1 HG1 k0 k1 k2 k3 k4 k5 k6 k7 k8 hRW hC
  go_wp2_with fail
  refine (cloneS_any x len cap l _ HD2.out hlen0 (by omega)).mono ?_
  rintro e w3 ⟨g, c, rfl, hown, hb3⟩
  have HG9 := Hid.mk (show w2.heap.size ≤ g by
    rcases hown.2 with ⟨h0, _⟩ | ⟨g', cap', cur, hv, hg, _⟩
    · cases h0
    · cases hv; exact hg)
  have HO := Hid.mk hown
  have HB3 := Hid.mk hb3
  have HG3 := Hid.mk (HG2.out.kept hb3)
  have k2 := HG3.out.c2
  simp only at k2
  clear hown hb3
  go_wp2_with fail
  go_loopw [37] (fun i wr => ∃ k : Nat, k ≤ sz ∧ i = .int .i64 k ∧ Hid (wr.ownsRow w2.heap.size 5 1 (.slice (some ⟨g, 0, none⟩) len c) len (cellsOf (wrK (plN bk st sz) (bitI r) l k))) ∧ Hid (Below w2.heap.size w2 wr)) (fun i _ => sz - (intOf i).toNat)
  case atStart => exact ⟨0, Nat.zero_le _, rfl, HO, HB3⟩
  case round =>
    clear k2
    obtain ⟨k, hk, rfl, HOk, HBk⟩ := hrel
    by_cases hlt : k < sz
    · have hlt' : (k : Int) < (sz : Int) := by omega
      obtain ⟨c0, c1, c2, c3, c4, c5, c6, c7, c8⟩ := HG2.out.kept HBk.out
      simp only at c0 c1 c2 c3 c4 c5 c6 c7 c8
      have hPk := HP.out k hlt
      have hpl := HPL.out k hlt
      have hb := bitI_lt r k
      have hwr : wrK (plN bk st sz) (bitI r) l (k + 1) = putB (wrK (plN bk st sz) (bitI r) l k) (plN bk st sz k) (bitI r k) := rfl
      have HWR := Hid.mk hwr
      have hbit := op_bit r k
      have hLl : (wrK (plN bk st sz) (bitI r) l k).length = len := by rw [wrK_length]; exact HLL.out
      generalize wrK (plN bk st sz) (bitI r) l k = L at *
      generalize plN bk st sz k = p at *
      generalize bitI r k = b at *
      obtain ⟨y, hy⟩ : ∃ y, y = (L.getD (p / 8) 0).toNat := ⟨_, rfl⟩
      have hy256 : y < 256 := by rw [hy]; exact UInt8.toNat_lt _
      have hk8 : p % 8 < 8 := by omega
      have hAN := op_clear hy256 hk8
      have hOR := op_put hy256 hk8 hb
      have hy0 := putN_lt hy256 hk8 (show 0 < 2 by omega)
      have hyb := putN_lt hy256 hk8 hb
      have hset0 := cells_set L p 0 (by rw [← hy]; exact hy0)
      have hL0 : (putB L p 0).length = len := by rw [putB_length]; exact hLl
      have hy1 : ((putB L p 0).getD (p / 8) 0).toNat = putN y (p % 8) 0 := by
        have hlt8 : p / 8 < L.length := by omega
        unfold putB
        simp only [List.getD, List.getElem?_set_self hlt8, Option.getD_some]
        rw [← UInt8.toNat_ofNat_of_lt' hy0, hy]
        rfl
      have hput : putN (putN y (p % 8) 0) (p % 8) b = putN y (p % 8) b := by
        apply byte_ext (putN_lt hy0 hk8 hb) hyb
        intro j hj
        rw [putN_bit hy0 hk8 hb hj, putN_bit hy256 hk8 hb hj]
        split
        · rfl
        · rename_i hne
          rw [putN_bit hy256 hk8 (by omega) hj, if_neg hne]
      have hset1 := cells_set (putB L p 0) p b (by rw [hy1, hput]; exact hyb)
      rw [hy1, hput, put_put L p b (by omega) hb] at hset1
      have hat0 := cells_at L (p / 8) (by omega)
      have hat1 := cells_at (putB L p 0) (p / 8) (by omega)
      rw [← hy] at hset0 hat0
      rw [hy1] at hat1
      have HS0 := Hid.mk hset0
      have HS1 := Hid.mk hset1
      have HA0 := Hid.mk hat0
      have HA1 := Hid.mk hat1
      generalize putN y (p % 8) 0 = y0 at *
      generalize putN y (p % 8) b = yb at *
      have hp8 : ((p : Int) / 8).toNat = p / 8 := by omega
      have hp9 : ((p : Int) % 8).toNat = p % 8 := by omega
      have hpl' : (p : Int) < 8 * (len : Int) := by omega
      have hb' : (b : Int) ≤ 1 := by omega
      have hy' : (y : Int) ≤ 255 := by omega
      have hy0' : (y0 : Int) ≤ 255 := by omega
      have hyb' : (yb : Int) ≤ 255 := by omega
      have hdv : p / 8 < len := by omega
      clear hwr hLl hy hy256 hk8 hy0 hyb hset0 hL0 hy1 hput hset1 hat0 hat1 hpl hb
      go_wp2_with fail
      refine (hPk _).mono ?_
      rintro e wq ⟨rfl, hbq⟩
      have HOq := Hid.mk (ownsRow_below HOk.out hbq)
      have HBq := Hid.mk (bl2 HBk.out hbq)
      have hc3 := HOq.out.cellAt (p / 8) (by omega)
      have hf3 := HOq.out.frozenAt (p / 8)
      rw [HA0.out] at hc3
      have hst := HOq.out.stored (p / 8) (.int .u8 (y0 : Int))
      rw [HS0.out] at hst
      have HST := Hid.mk hst
      clear hst hbq c0 c1 c2 c3 c4 c5 c6 c7 c8 hPk HOk
      go_wp2_with fail
      go_region
      obtain ⟨W2, hW2⟩ : ∃ W2, W2 = (wq.setCell ⟨g, p / 8, none⟩ (.int .u8 (y0 : Int))).drew := ⟨_, rfl⟩
      rw [← hW2]
      have hBs := HBq.out.grown HST.out.2 HBq.out.size (fun q hq => by cases hq; exact HG9.out)
      have HB5 := Hid.mk (show Below w2.heap.size w2 W2 by rw [hW2]; exact hBs.drew)
      have HO5 := Hid.mk (show W2.ownsRow w2.heap.size 5 1 (.slice (some ⟨g, 0, none⟩) len c) len (cellsOf (putB L p 0)) by rw [hW2]; exact ownsRow_below HST.out.1 (dwS _))
      have hc5 := HO5.out.cellAt (p / 8) (by omega)
      have hf5 := HO5.out.frozenAt (p / 8)
      rw [HA1.out] at hc5
      have hst5 := HO5.out.stored (p / 8) (.int .u8 (yb : Int))
      rw [HS1.out] at hst5
      have HST5 := Hid.mk hst5
      clear hst5 hc3 hf3 hW2 hBs HST HOq HBq hAN
      go_wp2_with fail
      go_region
      go_wp2_with fail
      go_roundw
      case rel => exact ⟨k + 1, by omega, by go_num, Hid.mk (by rw [HWR.out]; exact ownsRow_below HST5.out.1 (dwS _)), Hid.mk (HB5.out.grown HST5.out.2 HB5.out.size (fun q hq => by cases hq; exact HG9.out)).drew⟩
      case measure => simp [intOf]; omega
    · have e : k = sz := by omega
      subst e
      go_wp2_with fail
      go_ret2
      exact ⟨g, c, rfl, owns_baseP HOk.out HB2.out.size, bl2 HB2.out HBk.out⟩
end Bw
end Go.Proofs.YtlnkhlifkooohaaGreatDoor
