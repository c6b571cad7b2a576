/- What the document's own BitsOf answers of a right frame. -/
import Derived.Test.YtemohjamcdkcmaaGreatDoorRefFrameA
import Derived.Test.YtemohjamcdkcmaaGreatDoorRefFrameB
import Derived.Test.YtemohjamcdkcmaaGreatDoorC2
import Derived.Test.YtemohjamcdkcmaaGreatDoorC13
import Derived.Test.YtemohjamcdkcmaaGreatDoorC17
import Derived.Test.YtemohjamcdkcmaaGreatDoorRefSizes
import Derived.Deep.RegionWith
import Derived.Test.YtemohjamcdkcmaaGreatDoorC21
namespace Go.Proofs.YtemohjamcdkcmaaGreatDoor
open Go.ChangeShapes Go.WideShapes Go.ChangeAt Go.RowKit
namespace Bw
open Bm Cm

theorem checkFrame_any (id : Int) (lo fa re : Bool) (sz : Int) (a : Option Addr) (len cap : Nat) (w : World) (hlen : len ≤ 9223372036854775807) :
    Calls Tryz.prog 10 #[frameV id lo fa re sz a len cap] w fun e w' => e = .returned (.int .i64 (frEn id lo fa re sz len)) ∧ Below w.heap.size w w' := by
  cases lo <;> cases fa <;> cases re
  · exact checkFrame_snd id sz a len cap w hlen
  · exact checkFrame_snr id sz a len cap w hlen
  · exact checkFrame_sfd id sz a len cap w hlen
  · exact checkFrame_sfr id sz a len cap w hlen
  · exact checkFrame_lnd id sz a len cap w hlen
  · exact checkFrame_lnr id sz a len cap w hlen
  · exact checkFrame_lfd id sz a len cap w hlen
  · exact checkFrame_lfr id sz a len cap w hlen
end Bw
end Go.Proofs.YtemohjamcdkcmaaGreatDoor
namespace Go.Proofs.YtemohjamcdkcmaaGreatDoor
open Go.ChangeShapes Go.WideShapes Go.ChangeAt Go.RowKit
namespace Bw
open Bm Cm

set_option maxHeartbeats 4000000 in
theorem nameOf_any (f : Fr) (a : Option Addr) (len cap : Nat) (w : World) (h : w.cell? ⟨5, 1, none⟩ = some (.int .u8 1)) (h0 : 0 ≤ f.id) (h1 : f.id ≤ topI f.lo) :
    Calls Tryz.prog 15 #[frameV f.id f.lo f.fa f.re f.sz a len cap] w fun e w' => e = .returned (.string ⟨(nameL f).toArray⟩) ∧ Below w.heap.size w w' := by
  obtain ⟨id, lo, fa, re, sz, dt⟩ := f
  obtain ⟨n, rfl⟩ : ∃ n : Nat, id = (n : Int) := ⟨id.toNat, by simp only at h0; omega⟩
  simp only at h0 h1 ⊢
  unfold frameV
  have hb0 : Below w.heap.size w (w.alloc (.cells #[.int .i64 n, .bool lo, .bool fa, .bool re, .int .i64 sz, .slice a len cap] 24)) := (Below.refl _ _).alloc (Nat.le_refl _) _
  have hcell := cell_kept hb0 h
  cases lo
  · have hn : n < 2 ^ 11 := by simp [topI] at h1; omega
    have hr := Ww.rowOf_fit n 11 _ hcell (by omega) hn
    have hS := mk_list (bitsHead n 11 11)
    generalize ByteArray.mk (bitsHead n 11 11).toArray = S at *
    have hSs : S.size ≤ 11 := by rw [ba_size hS, bitsHead_length]; exact Nat.le_refl _
    have HSL := Hid.mk hS
    have HR := Hid.mk hr
    clear hr hcell hn h1 h0 hS
    cases re
    all_goals focus
      go_enter Tryz.func15, Tryz.ntmps15
      go_wp2_with fail
      refine HR.out.mono ?_
      rintro e w1 ⟨rfl, hb1⟩
      have hbel1 := bl2 hb0 hb1
      clear hb0 hb1 HR
      go_wp2_with fail
      go_ret
      exact ⟨ret_str1 (by rw [ba_cat, ba_cat, HSL.out, nameL]; simp [bitB]), hbel1⟩
  · have hn : n < 2 ^ 29 := by simp [topI] at h1; omega
    have hr := Ww.rowOf_fit n 29 _ hcell (by omega) hn
    have hS := mk_list (bitsHead n 29 29)
    generalize ByteArray.mk (bitsHead n 29 29).toArray = S at *
    have hSz : S.size = 29 := by rw [ba_size hS, bitsHead_length]
    have hSs : S.size ≤ 29 := by omega
    have hx1 : (S.extract 0 11).data.toList = (bitsHead n 29 29).take 11 := by
      have := extract_list S 0 11
      rw [Nat.zero_add] at this
      rw [this, List.drop_zero, hS]
    have hx2 : (S.extract 11 S.size).data.toList = (bitsHead n 29 29).drop 11 := by
      have e : S.size = 11 + (S.size - 11) := by omega
      rw [e, extract_list S 11 (S.size - 11), hS, List.take_of_length_le (by simp [bitsHead_length]; omega)]
    have hs1 : ∀ W, (Instr.slice 9 (.string S) none (some (.int .i64 11)) none).run Tryz.prog W = .ok (.string (S.extract 0 11)) W := by
      intro W
      rw [run_slice_string_h W _ S Tryz.underlying9 .i64 _ (by omega) (by omega)]; rfl
    have hs2 : ∀ W, (Instr.slice 9 (.string S) (some (.int .i64 11)) none none).run Tryz.prog W = .ok (.string (S.extract 11 S.size)) W := by
      intro W
      rw [run_slice_string_l W _ S Tryz.underlying9 .i64 _ (by omega) (by omega)]; rfl
    have hz1 : (S.extract 0 11).size ≤ 29 := by rw [ba_size hx1, List.length_take]; omega
    have hz2 : (S.extract 11 S.size).size ≤ 29 := by rw [ba_size hx2, List.length_drop, bitsHead_length]; omega
    generalize S.extract 0 11 = X1 at *
    generalize S.extract 11 S.size = X2 at *
    have HX1 := Hid.mk hx1
    have HX2 := Hid.mk hx2
    have HR := Hid.mk hr
    clear hr hcell hn h1 h0 hS hSz hx1 hx2
    cases re
    all_goals focus
      go_enter Tryz.func15, Tryz.ntmps15
      go_wp2_with fail
      refine HR.out.mono ?_
      rintro e w1 ⟨rfl, hb1⟩
      have hbel1 := bl2 hb0 hb1
      clear hb0 hb1 HR
      go_wp2_with fail
      go_quiet (fail)
      have hbel2 : Below w.heap.size w (w1.drewN nq) := bl2 hbel1 ⟨rfl, rfl, rfl, Nat.le_refl _, fun _ _ => rfl⟩
      clear hs1 hs2 hbel1
      go_wp2_with fail
      go_ret
      exact ⟨ret_str1 (by rw [ba_cat, ba_cat, ba_cat, HX1.out, HX2.out, nameL]; simp [bitB]), hbel2⟩
end Bw
end Go.Proofs.YtemohjamcdkcmaaGreatDoor
namespace Go.Proofs.YtemohjamcdkcmaaGreatDoor
open Go.ChangeShapes Go.WideShapes Go.ChangeAt Go.RowKit
namespace Bw
open Bm

set_option maxHeartbeats 2000000 in
theorem ofBytes_any (a : Option Addr) (len cap : Nat) (l : List UInt8) (w : World) (h : w.cell? ⟨5, 1, none⟩ = some (.int .u8 1)) (hl : len ≤ 125) (hr : IsBytes w a len cap l) :
    Calls Tryz.prog 76 #[.slice a len cap] w fun e w' => e = .returned (.string ⟨(ofL l).toArray⟩) ∧ Below w.heap.size w w' := by
  obtain ⟨hlen, _, _, hnil, hcells⟩ := hr
  have HC := Hid.mk hcells
  have HN := Hid.mk hnil
  have HL := Hid.mk hlen
  have H := Hid.mk h
  clear hcells hnil hlen h
  go_enter Tryz.func76, Tryz.ntmps76
  go_wp2_with fail
  go_loopw [3, 9] (fun s i wr => ∃ (k : Nat) (sb : ByteArray), k ≤ len ∧ i = .int .i64 k ∧ s = .string sb ∧ sb.data.toList = ofL (l.take k) ∧ Below w.heap.size w wr) (fun _ i _ => len - (intOf i).toNat)
  case atStart => exact ⟨0, ⟨#[]⟩, Nat.zero_le _, rfl, rfl, rfl, Below.refl _ _⟩
  case round =>
    obtain ⟨k, sb, hk, rfl, rfl, hsb, hbel⟩ := hrel
    have hsz := ba_size hsb
    rw [ofL_length, List.length_take] at hsz
    have hsz2 : (sb.size : Int) ≤ 1000 := by have := HL.out; omega
    have HS := Hid.mk hsb
    clear hsz hsb
    by_cases hlt : k < len
    · cases a with
      | none => exact absurd (HN.out rfl) (by omega)
      | some x =>
        have hc := cell_kept hbel (HC.out x rfl k hlt)
        have hlt' : (k : Int) < (len : Int) := by omega
        obtain ⟨c, hcE⟩ : ∃ c, c = l.getD k 0 := ⟨_, rfl⟩
        rw [← hcE] at hc
        have HE := Hid.mk hcE
        clear hcE
        have hcn := c.toNat_lt
        have hcb : (c.toNat : Int) ≤ 255 := by omega
        have hf := formatInt2 c.toNat wr (cell_kept hbel H.out) (by omega)
        have HF := Hid.mk hf
        clear hf
        go_wp2_with fail
        refine HF.out.mono ?_
        rintro e w1 ⟨j, h1, h2, h3, rfl, hb1⟩
        have hj7 : j ≤ 7 := by
          rcases h3 with rfl | h3
          · omega
          · rcases Nat.lt_or_ge j 8 with h' | h'
            · omega
            · have := Nat.le_trans (Nat.pow_le_pow_right (show 0 < 2 by omega) h') h3
              omega
        have hpad := pad_row c.toNat (j + 1) 8 h2 (by omega)
        have hqs := mk_size (bitsHead c.toNat (j + 1) (j + 1))
        rw [bitsHead_length] at hqs
        have hql := mk_list (bitsHead c.toNat (j + 1) (j + 1))
        generalize ByteArray.mk (bitsHead c.toNat (j + 1) (j + 1)).toArray = qb at *
        have hqb : (qb.size : Int) ≤ 8 := by omega
        have HQ := Hid.mk hqs
        have HQL := Hid.mk hql
        have HP := Hid.mk hpad
        have hbel1 := bl2 hbel hb1
        clear hqs hql hpad h1 h2 h3 HF hb1 hbel
        go_wp2_with fail
        rw [show (8 : Int) - (qb.size : Int) = ((8 - (j + 1) : Nat) : Int) by have := HQ.out; omega]
        refine (rep0 (8 - (j + 1)) _ (by omega)).mono ?_
        rintro e w2 ⟨zb, rfl, hz, hb2⟩
        have hzs := ba_size hz
        rw [List.length_replicate] at hzs
        have hzb : (zb.size : Int) ≤ 8 := by omega
        have hcat : (sb ++ (zb ++ qb)).data.toList = ofL (l.take (k + 1)) := by
          rw [ba_cat, ba_cat, hz, HQL.out, HP.out, HS.out, take_snocL l k (by have := HL.out; omega), ofL_snoc, ← HE.out]
        have HCt := Hid.mk hcat
        have hbel2 := bl2 hbel1 hb2
        have hzq : ((zb ++ qb).size : Int) ≤ 16 := by rw [ByteArray.size_append]; omega
        clear hz hzs hcat hb2 hbel1
        go_wp2_with fail
        go_roundw
        case rel => exact ⟨k + 1, _, by omega, by go_num, rfl, HCt.out, hbel2⟩
        case measure => simp [intOf]; omega
    · have e : k = len := by omega
      subst e
      have hfin : sb.data.toList = ofL l := by rw [HS.out, List.take_of_length_le (by have := HL.out; omega)]
      have HF := Hid.mk hfin
      clear hfin
      go_wp2_with fail
      go_ret
      exact ⟨ret_str1 HF.out, hbel⟩
end Bw
end Go.Proofs.YtemohjamcdkcmaaGreatDoor
namespace Go.Proofs.YtemohjamcdkcmaaGreatDoor
open Go.ChangeShapes Go.WideShapes Go.ChangeAt Go.RowKit
namespace Bw
open Bm Cm

set_option maxHeartbeats 8000000 in
theorem headOf_any (f : Fr) (a : Option Addr) (len cap : Nat) (w : World) (hD : w.cell? ⟨5, 1, none⟩ = some (.int .u8 1)) (hE : frE f = 0) (hr : IsBytes w a len cap f.dt) :
    Calls Tryz.prog 42 #[frameV f.id f.lo f.fa f.re f.sz a len cap] w fun e w' => e = .returned (.string ⟨(headL f).toArray⟩) ∧ Below w.heap.size w w' := by
  obtain ⟨e1, e2, e3, e4, e5, e6, e7, e8, e9⟩ := frE_ok hE
  have hdl : f.dt.length = len := hr.1
  have hcode : codeN f < 2 ^ 4 := by
    unfold codeN
    split
    · omega
    · exact (idx_sizes e9).2
  have hb0 : Below w.heap.size w (w.alloc (.cells #[.int .i64 f.id, .bool f.lo, .bool f.fa, .bool f.re, .int .i64 f.sz, .slice a len cap] 24)) := (Below.refl _ _).alloc (Nat.le_refl _) _
  have hnm := fun W hW => nameOf_any f a len cap W hW e1 e2
  unfold frameV at hnm ⊢
  have hNl := mk_list (nameL f)
  have hNs := nameL_len f
  have hro := fun W hW => Ww.rowOf_fit (codeN f) 4 W hW (by omega) hcode
  have hRl := mk_list (bitsHead (codeN f) 4 4)
  have hob := fun W hW hB => ofBytes_any a len cap f.dt W hW (by omega) hB
  have hOl := mk_list (ofL f.dt)
  have hOs : (ofL f.dt).length ≤ 512 := by rw [ofL_length]; omega
  have hidx := (idx_sizes e9).1
  have hcd : codeN f = if f.re then f.sz.toNat else sizesL.idxOf f.dt.length := rfl
  have hhd : headL f = [48] ++ nameL f ++ midL f ++ bitsHead (codeN f) 4 4 ++ ofL f.dt := rfl
  have hN32 : (nameL f).length ≤ 32 := by rw [hNs]; split <;> omega
  generalize hN : ByteArray.mk (nameL f).toArray = NM at *
  generalize hRR : ByteArray.mk (bitsHead (codeN f) 4 4).toArray = RR at *
  generalize hOO : ByteArray.mk (ofL f.dt).toArray = OO at *
  have hNz : NM.size ≤ 32 := by rw [ba_size hNl]; exact hN32
  have hRz : RR.size ≤ 4 := by rw [ba_size hRl, bitsHead_length]; exact Nat.le_refl _
  have hOz : OO.size ≤ 512 := by rw [ba_size hOl]; exact hOs
  have hs := fun W => sizes_any W
  have hix := fun g W hW => index_any g 16 16 sizesI (len : Int) W rfl (by omega) hW
  rw [hdl] at hidx hcd
  simp only [hidx] at hix
  have H1 := Hid.mk hnm
  have H2 := Hid.mk hro
  have H3 := Hid.mk hob
  have H4 := Hid.mk hs
  have H5 := Hid.mk hix
  have HD := Hid.mk hD
  have HR := Hid.mk hr
  have HHD := Hid.mk hhd
  have HNL := Hid.mk hNl
  have HRL := Hid.mk hRl
  have HOL := Hid.mk hOl
  have HCD := Hid.mk hcd
  have hlenm : len ≤ 64 := by omega
  have hmid : midL f = if f.fa then [49, 48, 49, 48] else if f.lo then [48, 48] else [48] := rfl
  have HMI := Hid.mk hmid
  have E3 := Hid.mk e3
  obtain ⟨id, lo, fa, re, sz, dt⟩ := f
  simp only at H1 H2 H3 HCD HMI E3 e4 hb0 ⊢
  obtain ⟨sn, rfl⟩ : ∃ sn : Nat, sz = (sn : Int) := ⟨sz.toNat, by omega⟩
  clear hnm hro hob hs hix hD hr hhd hNl hRl hOl hcd hmid e1 e2 e3 e5 e6 e7 e8 e9 hE hN hRR hOO hNs hN32 hOs hidx hcode hdl
  have hK : ∀ j, (w.alloc (.cells #[.int .i64 id, .bool lo, .bool fa, .bool re, .int .i64 (sn : Int), .slice a len cap] 24)).cell? ⟨w.heap.size, j, none⟩ = #[Value.int .i64 id, .bool lo, .bool fa, .bool re, .int .i64 (sn : Int), .slice a len cap][j]? :=
    fun j => cell_of_row _ _ j _ _ _ (heap_alloc_new w _)
  have HK := Hid.mk hK
  clear hK
  cases re
  · have HCN : Hid (((sizesL.idxOf len : Nat) : Int) = ((codeN ⟨id, lo, fa, false, (sn : Int), dt⟩ : Nat) : Int)) := Hid.mk (by rw [HCD.out]; rfl)
    cases lo <;> cases fa
    all_goals focus
      go_enter Tryz.func42, Tryz.ntmps42
      go_wp2_with fail
      refine (H1.out _ (cell_kept hb0 HD.out)).mono ?_
      rintro e w1 ⟨rfl, hb1⟩
      have hbel1 := bl2 hb0 hb1
      have HB1 := Hid.mk hb1
      have k1 := cell_kept hb1 (HK.out 1)
      have k2 := cell_kept hb1 (HK.out 2)
      have k3 := cell_kept hb1 (HK.out 3)
      have k4 := cell_kept hb1 (HK.out 4)
      have k5 := cell_kept hb1 (HK.out 5)
      simp at k1 k2 k3 k4 k5
      clear hb1 hb0
      go_wp2_with fail
      have hbA : Below w1.heap.size w1 (w1.alloc sizesC) := (Below.refl _ _).alloc (Nat.le_refl _) _
      have k5a := cell_kept hbA k5
      set_option maxRecDepth 100000 in
      go_region_with (first
        | (go_at_call 34; refine (H4.out _).mono ?_; rintro e w2 ⟨rfl, hw2⟩; subst hw2)
        | (go_at_call 24; refine (H5.out _ _ (sizes_intsD _ _ (by simp))).mono ?_; rintro e w2 ⟨rfl, hw2⟩; subst hw2))
      all_goals focus
        have hbel2 : Below w.heap.size w (w1.alloc sizesC).drew := (bl2 hbel1 hbA).drew
        have k5' : (w1.alloc sizesC).drew.cell? ⟨w.heap.size, 5, none⟩ = some (.slice a len cap) := k5a
        clear hbel1 hbA k1 k2 k3 k4 k5 k5a
        generalize (w1.alloc sizesC).drew = w2 at *
        go_wp2_with fail
        rw [HCN.out]
        refine (H2.out _ (cell_kept hbel2 HD.out)).mono ?_
        rintro e w3 ⟨rfl, hb3⟩
        have hbel3 := bl2 hbel2 hb3
        have k55 := cell_kept hb3 k5'
        clear hb3 k5'
        go_wp2_with fail
        refine (H3.out _ (cell_kept hbel3 HD.out) (isBytes_below HR.out hbel3)).mono ?_
        rintro e w4 ⟨rfl, hb4⟩
        have hbel4 := bl2 hbel3 hb4
        clear hb4 hbel3 k55
        go_wp2_with fail
        go_ret
        exact ⟨ret_str1 (by rw [HHD.out, HMI.out]; simp only [ba_cat, HNL.out, HRL.out, HOL.out]; rfl), hbel4⟩
  · obtain ⟨rfl, _⟩ := E3.out rfl
    have HCN : Hid ((sn : Int) = ((codeN ⟨id, lo, false, true, (sn : Int), dt⟩ : Nat) : Int)) := Hid.mk (by rw [HCD.out]; rfl)
    cases lo
    all_goals focus
      go_enter Tryz.func42, Tryz.ntmps42
      go_wp2_with fail
      refine (H1.out _ (cell_kept hb0 HD.out)).mono ?_
      rintro e w1 ⟨rfl, hb1⟩
      have hbel1 := bl2 hb0 hb1
      have HB1 := Hid.mk hb1
      have k1 := cell_kept hb1 (HK.out 1)
      have k2 := cell_kept hb1 (HK.out 2)
      have k3 := cell_kept hb1 (HK.out 3)
      have k4 := cell_kept hb1 (HK.out 4)
      have k5 := cell_kept hb1 (HK.out 5)
      simp at k1 k2 k3 k4 k5
      clear hb1 hb0
      have k5' := k5
      have hbel2 := hbel1
      clear hbel1
      go_wp2_with fail
      rw [HCN.out]
      refine (H2.out _ (cell_kept hbel2 HD.out)).mono ?_
      rintro e w3 ⟨rfl, hb3⟩
      have hbel3 := bl2 hbel2 hb3
      have k55 := cell_kept hb3 k5'
      clear hb3 k5'
      go_wp2_with fail
      refine (H3.out _ (cell_kept hbel3 HD.out) (isBytes_below HR.out hbel3)).mono ?_
      rintro e w4 ⟨rfl, hb4⟩
      have hbel4 := bl2 hbel3 hb4
      clear hb4 hbel3 k55
      go_wp2_with fail
      go_ret
      exact ⟨ret_str1 (by rw [HHD.out, HMI.out]; simp only [ba_cat, HNL.out, HRL.out, HOL.out]; rfl), hbel4⟩
end Bw
end Go.Proofs.YtemohjamcdkcmaaGreatDoor
namespace Go.Proofs.YtemohjamcdkcmaaGreatDoor
open Go.ChangeShapes Go.WideShapes Go.ChangeAt Go.RowKit
namespace Bw
open Bm

set_option maxHeartbeats 8000000 in
theorem putBits_any (s : ByteArray) (w : World) (hrow : rowB s.data.toList = true) (h1000 : s.size ≤ 1000) :
    Calls Tryz.prog 43 #[.string s] w fun e w' => e = .returned (.string ⟨(putF s.data.toList).toArray⟩) ∧ Below w.heap.size w w' := by
  have HR := Hid.mk hrow
  clear hrow
  go_enter Tryz.func43, Tryz.ntmps43
  go_wp2_with fail
  go_loopw [3, 8] (fun r i wr => ∃ (k : Nat) (sb : ByteArray), k ≤ s.size ∧ i = .int .i64 k ∧ r = .string sb ∧ sb.data.toList = putF (s.data.toList.take k) ∧ Below w.heap.size w wr) (fun _ i _ => s.size - (intOf i).toNat)
  case atStart => exact ⟨0, ⟨#[]⟩, Nat.zero_le _, rfl, rfl, rfl, Below.refl _ _⟩
  case round =>
    obtain ⟨k, sb, hk, rfl, rfl, hsb, hbel⟩ := hrel
    have hol : sb.size ≤ 2000 := by
      have := putF_len2 (s.data.toList.take k)
      rw [← hsb, List.length_take] at this
      simp at this
      omega
    have h4 : (endR sb.data.toList).2 ≤ 4 := by rw [hsb]; exact putF_keep _ (rowB_take HR.out k)
    have HSB := Hid.mk hsb
    have H4 := Hid.mk h4
    clear hsb h4
    by_cases hlt : k < s.size
    · have hlt' : (k : Int) < (s.size : Int) := by omega
      obtain ⟨c, hcE⟩ : ∃ c, c = s[k] := ⟨_, rfl⟩
      have hsl : ∀ W, (Instr.slice 9 (.string s) (some (.int .i64 (k : Int))) (some (.int .i64 ((k : Int) + 1))) none).run Tryz.prog W = .ok (.string ⟨#[c]⟩) W := by
        intro W
        rw [run_slice_string W _ s _ _ _ _ Tryz.underlying9 (by omega) (by omega) (by omega)]
        rw [show s.extract (k : Int).toNat ((k : Int) + 1).toNat = ⟨#[c]⟩ by rw [show (k : Int).toNat = k by omega, show ((k : Int) + 1).toNat = k + 1 by omega, one_at s k hlt, hcE]]
      have hnext : putF (s.data.toList.take (k + 1)) = putS sb.data.toList c := by rw [take_snoc s k hlt, putF_snoc, ← HSB.out, hcE]
      have hbit : bit c = true := by rw [hcE]; exact rowB_at HR.out k hlt
      have HN := Hid.mk hnext
      have HBIT := Hid.mk hbit
      clear hcE hnext hbit
      go_wp2_with fail
      generalize hX : sb ++ ⟨#[c]⟩ = X
      have hXl : X.data.toList = sb.data.toList ++ [c] := by rw [← hX, ba_cat]
      have hXs : X.size = sb.size + 1 := by rw [← hX, ByteArray.size_append]; rfl
      clear hX hsl
      have hXs1 : (sb.size : Int) < (X.size : Int) := by omega
      have hsl1 : ∀ W, (Instr.slice 9 (.string X) (some (.int .i64 (sb.size : Int))) none none).run Tryz.prog W = .ok (.string ⟨#[c]⟩) W := by
        intro W
        rw [run_slice_string_l W _ X Tryz.underlying9 .i64 _ (by omega) (by omega)]
        rw [show X.extract (sb.size : Int).toNat X.size = ⟨#[c]⟩ by rw [show (sb.size : Int).toNat = sb.size by omega, hXs, one_at X sb.size (by omega), at_getD X sb.size (by omega), hXl]; simp [List.getD]]
      have hlt3 : sb.size < X.size := by omega
      have hxi : X[sb.size] = c := by rw [at_getD X sb.size (by omega), hXl]; simp [List.getD]
      have HXL := Hid.mk hXl
      have HXS := Hid.mk hXs
      clear hXl hXs
      by_cases hge : 4 ≤ sb.size
      · have hge' : (5 : Int) ≤ (sb.size : Int) + 1 := by omega
        obtain ⟨t5, ht5⟩ : ∃ t5, t5 = X.extract (sb.size - 4) X.size := ⟨_, rfl⟩
        have hsl5 : ∀ W, (Instr.slice 9 (.string X) (some (.int .i64 ((sb.size : Int) + 1 - 5))) none none).run Tryz.prog W = .ok (.string t5) W := by
          intro W
          rw [run_slice_string_l W _ X Tryz.underlying9 .i64 _ (by omega) (by omega)]
          rw [show ((sb.size : Int) + 1 - 5).toNat = sb.size - 4 by omega, ht5]
        have hcn := fun W => Tryz.strings_Count_one t5 c W
        have hcnt : Lib.countByte t5.data.toList c = 5 ↔ (endR (sb.data.toList ++ [c])).2 = 5 := by
          have h1 : t5.data.toList = X.data.toList.drop (X.data.toList.length - 5) := by
            have e1 : X.data.toList.length = sb.size + 1 := by rw [HXL.out]; simp
            have e2 := extract_list X (sb.size - 4) 5
            rw [show sb.size - 4 + 5 = X.size by have := HXS.out; omega] at e2
            rw [ht5, e2, e1, show sb.size + 1 - 5 = sb.size - 4 by omega]
            exact List.take_of_length_le (by rw [List.length_drop, e1]; omega)
          rw [h1, HXL.out]
          have hb5 : (endR (sb.data.toList ++ [c])).2 ≤ 5 := by
            rw [endR_snoc]
            have := addR_pos (endR sb.data.toList) c
            have := H4.out
            omega
          exact five_iff _ hb5 (by simp; omega) c (by simp [List.getD])
        clear ht5
        generalize Lib.countByte t5.data.toList c = q at *
        by_cases h5 : (endR (sb.data.toList ++ [c])).2 = 5
        · have hq : ((q : Int) == 5) = true := by rw [hcnt.2 h5]; rfl
          have hS : putS sb.data.toList c = sb.data.toList ++ [c] ++ [otb c] := by unfold putS; rw [if_pos h5]
          have HS := Hid.mk hS
          clear h5 hS hcnt
          go_quiet ((go_at_call 53; refine Calls.quiet_of_same (hcn _)))
          clear hcn hsl5 hsl1
          go_wp2_with fail
          refine (otherR_any c _).mono ?_
          rintro e w2 ⟨rfl, hw2⟩
          subst hw2
          have hcv := convert_lit ((wr.drewN nq).alloc (.cells #[.int .u8 (otb c).toNat] 5)) wr.heap.size (otb c) (heap_alloc_new (wr.drewN nq) _)
          have hXs2 : (X.size : Int) ≤ 2001 := by have := HXS.out; omega
          have hbel2 : Below w.heap.size w ((wr.drewN nq).alloc (.cells #[.int .u8 (otb c).toNat] 5)) :=
            (hbel.trans ⟨rfl, rfl, rfl, Nat.le_refl _, fun _ _ => rfl⟩ : Below w.heap.size w (wr.drewN nq)).alloc hbel.size _
          go_wp2_with fail
          go_roundw
          case rel => exact ⟨k + 1, X ++ ⟨#[otb c]⟩, by omega, by go_num, rfl, by rw [ba_cat, HXL.out, HN.out, HS.out], hbel2⟩
          case measure => simp [intOf]; omega
        · have hq : ((q : Int) == 5) = false := by
            rw [beq_eq_false_iff_ne]
            exact fun e => h5 (hcnt.1 (by omega))
          have hS : putS sb.data.toList c = sb.data.toList ++ [c] := by unfold putS; rw [if_neg h5]
          have HS := Hid.mk hS
          clear h5 hS hcnt
          go_quiet ((go_at_call 53; refine Calls.quiet_of_same (hcn _)))
          clear hcn hsl5 hsl1
          go_wp2_with fail
          go_roundw
          case rel => exact ⟨k + 1, X, by omega, by go_num, rfl, by rw [HXL.out, HN.out, HS.out], hbel.trans ⟨rfl, rfl, rfl, Nat.le_refl _, fun _ _ => rfl⟩⟩
          case measure => simp [intOf]; omega
      · have hge' : decide ((5 : Int) ≤ (sb.size : Int) + 1) = false := by simp; omega
        have hS : putS sb.data.toList c = sb.data.toList ++ [c] := by
          unfold putS
          rw [if_neg]
          intro h
          have := endR_le (sb.data.toList ++ [c])
          rw [h, List.length_append] at this
          simp at this
          omega
        have HS := Hid.mk hS
        clear hS hsl1
        go_quiet (fail)
        go_wp2_with fail
        go_roundw
        case rel => exact ⟨k + 1, X, by omega, by go_num, rfl, by rw [HXL.out, HN.out, HS.out], hbel.trans ⟨rfl, rfl, rfl, Nat.le_refl _, fun _ _ => rfl⟩⟩
        case measure => simp [intOf]; omega
    · have e : k = s.size := by omega
      subst e
      have hfin : sb.data.toList = putF s.data.toList := by rw [HSB.out, List.take_of_length_le (by simp)]
      have HF := Hid.mk hfin
      clear hfin
      go_wp2_with fail
      go_ret
      exact ⟨ret_str1 HF.out, hbel⟩
end Bw
end Go.Proofs.YtemohjamcdkcmaaGreatDoor
namespace Go.Proofs.YtemohjamcdkcmaaGreatDoor
open Go.ChangeShapes Go.WideShapes Go.ChangeAt Go.RowKit
namespace Bw
open Bm Cm

set_option maxHeartbeats 8000000 in
theorem bitsOf_any (f : Fr) (a : Option Addr) (len cap : Nat) (w : World) (hD : w.cell? ⟨5, 1, none⟩ = some (.int .u8 1)) (hE : frE f = 0) (hr : IsBytes w a len cap f.dt) :
    Calls Tryz.prog 16 #[frameV f.id f.lo f.fa f.re f.sz a len cap] w fun e w' => e = .returned (.string ⟨(bitsL f).toArray⟩) ∧ Below w.heap.size w w' := by
  obtain ⟨e1, e2, e3, e4, e5, e6, e7, e8, e9⟩ := frE_ok hE
  have hdl : f.dt.length = len := hr.1
  have hb0 : Below w.heap.size w (w.alloc (.cells #[.int .i64 f.id, .bool f.lo, .bool f.fa, .bool f.re, .int .i64 f.sz, .slice a len cap] 24)) := (Below.refl _ _).alloc (Nat.le_refl _) _
  have hhd := fun W hW hB => headOf_any f a len cap W hW hE hB
  have hHr := headL_row f
  have hHn := (headL_le f e7).2
  have hH1 := (headL_le f e7).1
  have hHl := mk_list (headL f)
  generalize ByteArray.mk (headL f).toArray = H at *
  have hHs : H.size = (headL f).length := ba_size hHl
  have hK : ∀ j, (w.alloc (.cells #[.int .i64 f.id, .bool f.lo, .bool f.fa, .bool f.re, .int .i64 f.sz, .slice a len cap] 24)).cell? ⟨w.heap.size, j, none⟩ = #[Value.int .i64 f.id, .bool f.lo, .bool f.fa, .bool f.re, .int .i64 f.sz, .slice a len cap][j]? :=
    fun j => cell_of_row _ _ j _ _ _ (heap_alloc_new w _)
  unfold frameV at hhd ⊢
  have H1 := Hid.mk hhd
  have HK := Hid.mk hK
  have HD := Hid.mk hD
  have HB := Hid.mk hr
  have hHz : H.size ≤ 553 := by omega
  cases hfa : f.fa
  · have hbl : bitsL f = putF (headL f ++ sumL 0 (headL f)) ++ onesL := by unfold bitsL; rw [hfa]; rfl
    have hso := fun W hW => Ww.sumOf_any 0 H W hW (by omega) (by omega) (by rw [hHl]; exact hHr)
    rw [hHl, show bitsHead (sumV 0 (headL f)) (kS 0) (kS 0) = sumL 0 (headL f) from rfl] at hso
    have hSl := mk_list (sumL 0 (headL f))
    have hSn := sumL_len 0 (headL f)
    have hSr := sumL_row 0 (headL f)
    generalize sumL 0 (headL f) = sl at *
    generalize ByteArray.mk sl.toArray = S at *
    have hk0 : kS 0 = 15 := rfl
    have hSz : S.size ≤ 15 := by rw [ba_size hSl, hSn, hk0]; exact Nat.le_refl _
    obtain ⟨Y, hY⟩ : ∃ Y, Y = H ++ S := ⟨_, rfl⟩
    have hYl : Y.data.toList = headL f ++ sl := by rw [hY, ba_cat, hHl, hSl]
    have hYs : Y.size = (headL f).length + sl.length := by rw [ba_size hYl, List.length_append]
    have hpu := fun W => putBits_any Y W (by rw [hYl, rowB_append, hHr, hSr]; rfl) (by omega)
    rw [hYl] at hpu
    have hPl := mk_list (putF (headL f ++ sl))
    have hPn := putF_len2 (headL f ++ sl)
    rw [List.length_append] at hPn
    simp only [hY] at hpu
    generalize putF (headL f ++ sl) = pl at *
    generalize ByteArray.mk pl.toArray = P at *
    have hPz : P.size ≤ 1200 := by rw [ba_size hPl]; omega
    have H2 := Hid.mk hso
    have H3 := Hid.mk hpu
    have HPL := Hid.mk hPl
    have HBL := Hid.mk hbl
    rw [hfa] at H1 HK hb0
    clear hhd hHr hHn hH1 hHl hHs hK hD hr hbl hso hSl hSn hSr hk0 hYl hYs hpu hPl hPn e1 e2 e3 e4 e5 e6 e7 e8 e9 hE hdl hY
    go_enter Tryz.func16, Tryz.ntmps16
    go_wp2_with fail
    refine (H1.out _ (cell_kept hb0 HD.out) (isBytes_below HB.out hb0)).mono ?_
    rintro e w1 ⟨rfl, hb1⟩
    have hbel1 := bl2 hb0 hb1
    have k2 := cell_kept hb1 (HK.out 2)
    simp at k2
    clear hb1 hb0
    go_wp2_with fail
    refine (H2.out _ (cell_kept hbel1 HD.out)).mono ?_
    rintro e w2 ⟨rfl, hb2⟩
    have hbel2 := bl2 hbel1 hb2
    clear hb2 hbel1 k2
    go_wp2_with fail
    refine (H3.out _).mono ?_
    rintro e w3 ⟨rfl, hb3⟩
    have hbel3 := bl2 hbel2 hb3
    clear hb3 hbel2
    go_wp2_with fail
    go_ret
    exact ⟨ret_str1 (by rw [HBL.out, ba_cat, HPL.out]; rfl), hbel3⟩
  · have hbl : bitsL f = putF (headL f) ++ fastL (headL f) (putF (headL f)) f.dt.length ++ onesL := by unfold bitsL; rw [hfa]; rfl
    have hpu := fun W => putBits_any H W (by rw [hHl]; exact hHr) (by omega)
    rw [hHl] at hpu
    have hPl := mk_list (putF (headL f))
    have hPr := putF_row (headL f) hHr
    obtain ⟨kk, hk1, hk2⟩ := putF_most (headL f) hHr
    generalize hpp : putF (headL f) = pl at *
    generalize ByteArray.mk pl.toArray = P at *
    have hPs : P.size = pl.length := ba_size hPl
    have hPz : P.size ≤ 900 := by omega
    have hfe := fun W hW => fastEnd_any H P len W hW (by omega) (by omega) hPz (by rw [hPl]; exact hPr) (by omega)
    rw [hHl, hPl] at hfe
    rw [hdl] at hbl
    have hFl := mk_list (fastL (headL f) pl len)
    have hFn : (fastL (headL f) pl len).length ≤ 50 := by
      unfold fastL fixL
      have h1 := fixR_len (tailL (headL f) pl len) (lastB pl) (tailL (headL f) pl len).length
      have h2 := tailL_le (headL f) pl len
      omega
    generalize fastL (headL f) pl len = fl at *
    generalize ByteArray.mk fl.toArray = F at *
    have hFz : F.size ≤ 50 := by rw [ba_size hFl]; exact hFn
    have H2 := Hid.mk hpu
    have H3 := Hid.mk hfe
    have HPL := Hid.mk hPl
    have HFL := Hid.mk hFl
    have HBL := Hid.mk hbl
    rw [hfa] at H1 HK hb0
    have hlen : len ≤ 64 := by omega
    clear hhd hHr hHn hH1 hHl hHs hK hD hr hbl hpu hPl hPr hk1 hk2 hpp hPs hfe hFl hFn e1 e2 e3 e4 e5 e6 e7 e8 e9 hE hdl
    go_enter Tryz.func16, Tryz.ntmps16
    go_wp2_with fail
    refine (H1.out _ (cell_kept hb0 HD.out) (isBytes_below HB.out hb0)).mono ?_
    rintro e w1 ⟨rfl, hb1⟩
    have hbel1 := bl2 hb0 hb1
    have k2 := cell_kept hb1 (HK.out 2)
    have k5 := cell_kept hb1 (HK.out 5)
    simp at k2 k5
    clear hb1 hb0
    go_wp2_with fail
    refine (H2.out _).mono ?_
    rintro e w2 ⟨rfl, hb2⟩
    have hbel2 := bl2 hbel1 hb2
    have k55 := cell_kept hb2 k5
    clear hb2 hbel1 k2 k5
    go_wp2_with fail
    refine (H3.out _ (cell_kept hbel2 HD.out)).mono ?_
    rintro e w3 ⟨rfl, hb3⟩
    have hbel3 := bl2 hbel2 hb3
    clear hb3 hbel2 k55
    go_wp2_with fail
    go_ret
    exact ⟨ret_str1 (by rw [HBL.out, ba_cat, ba_cat, HPL.out, HFL.out]; rfl), hbel3⟩
end Bw
end Go.Proofs.YtemohjamcdkcmaaGreatDoor
