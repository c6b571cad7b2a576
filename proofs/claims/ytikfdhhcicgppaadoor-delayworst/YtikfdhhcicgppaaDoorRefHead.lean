/- What the document's own headOf answers of a right frame. -/
import Derived.Test.YtikfdhhcicgppaaDoorRefName
import Derived.Test.YtikfdhhcicgppaaDoorC2
import Derived.Test.YtikfdhhcicgppaaDoorRefSizes
import Derived.Test.YtikfdhhcicgppaaDoorR1
import Derived.Deep.RegionWith
namespace Go.Proofs.YtikfdhhcicgppaaDoor
open Go.ChangeShapes Go.WideShapes Go.ChangeAt Go.RowKit
namespace Bw
open Bm Cm

set_option maxHeartbeats 8000000 in
theorem headOf_any (f : Fr) (a : Option Addr) (len cap : Nat) (w : World) (hD : w.cell? ⟨5, 1, none⟩ = some (.int .u8 1)) (hE : frE f = 0) (hr : IsBytes w a len cap f.dt) :
    Calls Tryd.prog 30 #[frameV f.id f.lo f.fa f.re f.sz a len cap] w fun e w' => e = .returned (.string ⟨(headL f).toArray⟩) ∧ Below w.heap.size w w' := by
  obtain ⟨e1, e2, e3, e4, e5, e6, e7, e8, e9⟩ := frE_ok hE
  have hdl : f.dt.length = len := hr.1
  have hcode : codeN f < 2 ^ 4 := by
    unfold codeN
    split
    · omega
    · exact (idx_sizes e9).2
  have hb0 : Below w.heap.size w (w.alloc (.cells #[.int .i64 f.id, .bool f.lo, .bool f.fa, .bool f.re, .int .i64 f.sz, .slice a len cap] 58)) := (Below.refl _ _).alloc (Nat.le_refl _) _
  have hnm := fun W hW => nameOf_any f a len cap W hW e1 e2
  unfold frameV at hnm ⊢
  have hNl := mk_list (nameL f)
  have hNs := nameL_len f
  have hro := fun W hW => Ww.rowOf_fit (codeN f) 4 W hW (by omega) hcode
  have hRl := mk_list (bitsHead (codeN f) 4 4)
  have hob := fun W hW hB => ofBytes_any a len cap f.dt W hW (by omega) hB
  have hOl := mk_list (ofL f.dt)
  have hOs : (ofL f.dt).length ≤ 512 := by rw [ofL_length]; omega
  have hidx := (idx_sizes e9).1
  have hcd : codeN f = if f.re then f.sz.toNat else sizesL.idxOf f.dt.length := rfl
  have hhd : headL f = [48] ++ nameL f ++ midL f ++ bitsHead (codeN f) 4 4 ++ ofL f.dt := rfl
  have hN32 : (nameL f).length ≤ 32 := by rw [hNs]; split <;> omega
  generalize hN : ByteArray.mk (nameL f).toArray = NM at *
  generalize hRR : ByteArray.mk (bitsHead (codeN f) 4 4).toArray = RR at *
  generalize hOO : ByteArray.mk (ofL f.dt).toArray = OO at *
  have hNz : NM.size ≤ 32 := by rw [ba_size hNl]; exact hN32
  have hRz : RR.size ≤ 4 := by rw [ba_size hRl, bitsHead_length]; exact Nat.le_refl _
  have hOz : OO.size ≤ 512 := by rw [ba_size hOl]; exact hOs
  have hs := fun W => sizes_any W
  have hix := fun g W hW => index_any g 16 16 sizesI (len : Int) W rfl (by omega) hW
  rw [hdl] at hidx hcd
  simp only [hidx] at hix
  have H1 := Hid.mk hnm
  have H2 := Hid.mk hro
  have H3 := Hid.mk hob
  have H4 := Hid.mk hs
  have H5 := Hid.mk hix
  have HD := Hid.mk hD
  have HR := Hid.mk hr
  have HHD := Hid.mk hhd
  have HNL := Hid.mk hNl
  have HRL := Hid.mk hRl
  have HOL := Hid.mk hOl
  have HCD := Hid.mk hcd
  have hlenm : len ≤ 64 := by omega
  have hmid : midL f = if f.fa then [49, 48, 49, 48] else if f.lo then [48, 48] else [48] := rfl
  have HMI := Hid.mk hmid
  have E3 := Hid.mk e3
  obtain ⟨id, lo, fa, re, sz, dt⟩ := f
  simp only at H1 H2 H3 HCD HMI E3 e4 hb0 ⊢
  obtain ⟨sn, rfl⟩ : ∃ sn : Nat, sz = (sn : Int) := ⟨sz.toNat, by omega⟩
  clear hnm hro hob hs hix hD hr hhd hNl hRl hOl hcd hmid e1 e2 e3 e5 e6 e7 e8 e9 hE hN hRR hOO hNs hN32 hOs hidx hcode hdl
  have hK : ∀ j, (w.alloc (.cells #[.int .i64 id, .bool lo, .bool fa, .bool re, .int .i64 (sn : Int), .slice a len cap] 58)).cell? ⟨w.heap.size, j, none⟩ = #[Value.int .i64 id, .bool lo, .bool fa, .bool re, .int .i64 (sn : Int), .slice a len cap][j]? :=
    fun j => cell_of_row _ _ j _ _ _ (heap_alloc_new w _)
  have HK := Hid.mk hK
  clear hK
  cases re
  · have HCN : Hid (((sizesL.idxOf len : Nat) : Int) = ((codeN ⟨id, lo, fa, false, (sn : Int), dt⟩ : Nat) : Int)) := Hid.mk (by rw [HCD.out]; rfl)
    cases lo <;> cases fa
    all_goals focus
      go_enter Tryd.func30, Tryd.ntmps30
      go_wp2_with fail
      refine (H1.out _ (cell_kept hb0 HD.out)).mono ?_
      rintro e w1 ⟨rfl, hb1⟩
      have hbel1 := bl2 hb0 hb1
      have HB1 := Hid.mk hb1
      have k1 := cell_kept hb1 (HK.out 1)
      have k2 := cell_kept hb1 (HK.out 2)
      have k3 := cell_kept hb1 (HK.out 3)
      have k4 := cell_kept hb1 (HK.out 4)
      have k5 := cell_kept hb1 (HK.out 5)
      simp at k1 k2 k3 k4 k5
      clear hb1 hb0
      go_wp2_with fail
      have hbA : Below w1.heap.size w1 (w1.alloc sizesC) := (Below.refl _ _).alloc (Nat.le_refl _) _
      have k5a := cell_kept hbA k5
      set_option maxRecDepth 100000 in
      go_region_with (first
        | (go_at_call 39; refine (H4.out _).mono ?_; rintro e w2 ⟨rfl, hw2⟩; subst hw2)
        | (go_at_call 38; refine (H5.out _ _ (sizes_intsD _ _ (by simp))).mono ?_; rintro e w2 ⟨rfl, hw2⟩; subst hw2))
      all_goals focus
        have hbel2 : Below w.heap.size w (w1.alloc sizesC).drew := (bl2 hbel1 hbA).drew
        have k5' : (w1.alloc sizesC).drew.cell? ⟨w.heap.size, 5, none⟩ = some (.slice a len cap) := k5a
        clear hbel1 hbA k1 k2 k3 k4 k5 k5a
        generalize (w1.alloc sizesC).drew = w2 at *
        go_wp2_with fail
        rw [HCN.out]
        refine (H2.out _ (cell_kept hbel2 HD.out)).mono ?_
        rintro e w3 ⟨rfl, hb3⟩
        have hbel3 := bl2 hbel2 hb3
        have k55 := cell_kept hb3 k5'
        clear hb3 k5'
        go_wp2_with fail
        refine (H3.out _ (cell_kept hbel3 HD.out) (isBytes_below HR.out hbel3)).mono ?_
        rintro e w4 ⟨rfl, hb4⟩
        have hbel4 := bl2 hbel3 hb4
        clear hb4 hbel3 k55
        go_wp2_with fail
        go_ret
        exact ⟨ret_str1 (by rw [HHD.out, HMI.out]; simp only [ba_cat, HNL.out, HRL.out, HOL.out]; rfl), hbel4⟩
  · obtain ⟨rfl, _⟩ := E3.out rfl
    have HCN : Hid ((sn : Int) = ((codeN ⟨id, lo, false, true, (sn : Int), dt⟩ : Nat) : Int)) := Hid.mk (by rw [HCD.out]; rfl)
    cases lo
    all_goals focus
      go_enter Tryd.func30, Tryd.ntmps30
      go_wp2_with fail
      refine (H1.out _ (cell_kept hb0 HD.out)).mono ?_
      rintro e w1 ⟨rfl, hb1⟩
      have hbel1 := bl2 hb0 hb1
      have HB1 := Hid.mk hb1
      have k1 := cell_kept hb1 (HK.out 1)
      have k2 := cell_kept hb1 (HK.out 2)
      have k3 := cell_kept hb1 (HK.out 3)
      have k4 := cell_kept hb1 (HK.out 4)
      have k5 := cell_kept hb1 (HK.out 5)
      simp at k1 k2 k3 k4 k5
      clear hb1 hb0
      have k5' := k5
      have hbel2 := hbel1
      clear hbel1
      go_wp2_with fail
      rw [HCN.out]
      refine (H2.out _ (cell_kept hbel2 HD.out)).mono ?_
      rintro e w3 ⟨rfl, hb3⟩
      have hbel3 := bl2 hbel2 hb3
      have k55 := cell_kept hb3 k5'
      clear hb3 k5'
      go_wp2_with fail
      refine (H3.out _ (cell_kept hbel3 HD.out) (isBytes_below HR.out hbel3)).mono ?_
      rintro e w4 ⟨rfl, hb4⟩
      have hbel4 := bl2 hbel3 hb4
      clear hb4 hbel3 k55
      go_wp2_with fail
      go_ret
      exact ⟨ret_str1 (by rw [HHD.out, HMI.out]; simp only [ba_cat, HNL.out, HRL.out, HOL.out]; rfl), hbel4⟩
end Bw
end Go.Proofs.YtikfdhhcicgppaaDoor
