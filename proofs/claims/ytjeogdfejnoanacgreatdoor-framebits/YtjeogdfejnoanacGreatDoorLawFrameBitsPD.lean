/- Joined out of our texts: FrHead, FrBits, FrBack, EqualB, RefSame, ShelfPre, Framed, FrSame, FrNamed, RefOwn, SizesRow, RulesRow, BruijnRow, FbitsWalk, FrameSized. -/
import Derived.Test.YtjeogdfejnoanacGreatDoorLawFrameBitsPC
import Derived.Test.YtjeogdfejnoanacGreatDoorLawFrameBitsPA
import Derived.BigQuiet
import Derived.Lib.QuietBelow
import Derived.Test.YtjeogdfejnoanacGreatDoorLawFrameBitsPB
import Derived.Test.YtjeogdfejnoanacGreatDoorBase8
import Derived.Shelf.Strings.Prefix
import Derived.Test.YtjeogdfejnoanacGreatDoorProg
import Derived.Test.YtjeogdfejnoanacGreatDoorRows
import Derived.Lib.LaidU8
import Derived.Test.YtjeogdfejnoanacGreatDoorIsRow
import Derived.Test.YtjeogdfejnoanacGreatDoorRefFrame
import Derived.Test.YtjeogdfejnoanacGreatDoorLawFrameBitsRV
import Derived.Test.YtjeogdfejnoanacGreatDoorFrameOpen
import Derived.SizedLaws
/- What frame.head answers of a right frame. -/
namespace Go.Proofs.YtjeogdfejnoanacGreatDoor
open Go.ChangeShapes Go.WideShapes Go.ChangeAt Go.RowKit
namespace Bw
open Bm Cm Go.Sort

theorem sizes_low (n : Nat) (h : n ≤ 8) : n ∈ sizesL ∧ sizesL.idxOf n = n := by
  have : ∀ m : Fin 9, m.val ∈ sizesL ∧ sizesL.idxOf m.val = m.val := by decide +kernel
  exact this ⟨n, by omega⟩
/-- the number that tells the code -/
def sizeI (f : Fr) : Int := if f.re then f.sz else (f.dt.length : Int)
theorem code_idx {f : Fr} (hE : frE f = 0) : idxI sizesI (sizeI f) = (codeN f : Int) ∧ codeN f < 2 ^ 4 := by
  obtain ⟨-, -, e3, e4, e5, e6, e7, e8, e9⟩ := frE_ok hE
  unfold sizeI codeN
  cases hre : f.re
  · exact idx_sizes e9
  · have h := sizes_low f.sz.toNat (by omega)
    have h2 := idx_sizes h.1
    rw [h.2] at h2
    simp only [if_true]
    rw [show ((f.sz.toNat : Nat) : Int) = f.sz by omega] at h2
    exact ⟨by rw [h2.1]; omega, h2.2⟩
theorem FrAt.regrown {w : World} {g : Nat} {id : Int} {lo fa re : Bool} {sz : Int} {a : Option Addr} {len cap : Nat} (h : FrAt w g id lo fa re sz a len cap) (d : Nat) (os : Array Obj) : FrAt (grow (redrawn w d) os) g id lo fa re sz a len cap :=
  ⟨cell_regrown h.c0 d os, cell_regrown h.c1 d os, cell_regrown h.c2 d os, cell_regrown h.c3 d os, cell_regrown h.c4 d os, cell_regrown h.c5 d os⟩

set_option maxHeartbeats 8000000 in
theorem head_any (f : Fr) (a : Option Addr) (len cap : Nat) (w : World) (hS : SizesAt w) (hE : frE f = 0) (hr : IsBytes w a len cap f.dt) :
    Calls Tryz.prog 20 #[frameV f.id f.lo f.fa f.re f.sz a len cap] w fun e w' => e = .returned (.string ⟨(headL f).toArray⟩) ∧ Below w.heap.size w w' := by
  obtain ⟨e1, e2, e3, e4, e5, e6, e7, e8, e9⟩ := frE_ok hE
  have hdl : f.dt.length = len := hr.1
  obtain ⟨hix, hcode⟩ := code_idx hE
  have hB := below_box w f.id f.lo f.fa f.re f.sz a len cap
  have hK := FrAt.box w f.id f.lo f.fa f.re f.sz a len cap
  unfold frameC at hB hK
  have hnm := fun W => name_any f a len cap W e1 e2
  have hfm := fun W => form_any f a len cap W
  unfold frameV at hnm hfm ⊢
  have hco := fun W hW => codeOf_any (sizeI f) W hW
  rw [hix] at hco
  have hro := fun W => row_ok (codeN f) 4 W (by omega) hcode
  have hof := fun W hB => of_any a len cap f.dt W (by omega) hB
  have hNl := mk_list (nameL f)
  have hNs := nameL_len f
  have hMl := mk_list (midL f)
  have hMs := midL_len f
  have hRl := mk_list (bitsHead (codeN f) 4 4)
  have hOl := mk_list (ofL f.dt)
  have hOs : (ofL f.dt).length ≤ 512 := by rw [ofL_length]; omega
  have hfin : headL f = [48] ++ nameL f ++ midL f ++ bitsHead (codeN f) 4 4 ++ ofL f.dt := rfl
  generalize ByteArray.mk (nameL f).toArray = NM at *
  generalize ByteArray.mk (midL f).toArray = MD at *
  generalize ByteArray.mk (bitsHead (codeN f) 4 4).toArray = CD at *
  generalize ByteArray.mk (ofL f.dt).toArray = OF at *
  have z1 : NM.size ≤ 32 := by rw [ba_size hNl, hNs]; split <;> omega
  have z2 : MD.size ≤ 4 := by rw [ba_size hMl]; omega
  have z3 : CD.size ≤ 4 := by rw [ba_size hRl, bitsHead_length]; exact Nat.le_refl _
  have z4 : OF.size ≤ 512 := by rw [ba_size hOl]; exact hOs
  have HS := Hid.mk (hS.kept hB)
  have HBY := Hid.mk (isBytes_below hr hB)
  have HNM := Hid.mk hnm
  have HFM := Hid.mk hfm
  have HCO := Hid.mk hco
  have HRO := Hid.mk hro
  have HOF := Hid.mk hof
  have HK := Hid.mk hK
  have HFIN := Hid.mk hfin
  have HL := Hid.mk (And.intro hNl (And.intro hMl (And.intro hRl hOl)))
  have hlen : (len : Int) ≤ 64 := by omega
  have hsi : sizeI f = if f.re then f.sz else (len : Int) := by unfold sizeI; rw [hdl]
  have HSI := Hid.mk hsi
  clear hS hr hnm hfm hco hro hof hNl hNs hMl hMs hRl hOl hOs hfin hK e1 e2 e3 e4 e5 e6 e7 e8 e9 hE hix hcode hdl hsi
  generalize codeN f = cn at *
  generalize sizeI f = si at *
  cases hre : f.re
  all_goals
    rw [hre] at HNM HFM HK hB HSI HS HBY
    have hsi := HSI.out
    simp only [Bool.false_eq_true, if_false, if_true] at hsi
    subst hsi
    go_enter Tryz.func20, Tryz.ntmps20
    go_wp2_with fail
    refine (HCO.out _ HS.out).mono ?_
    rintro e w1 ⟨rfl, hw1⟩
    subst hw1
    go_wp2_with fail
    refine (HRO.out _).mono ?_
    rintro e w2 ⟨rfl, hb2⟩
    have hbel2 := bl2 hB hb2
    have HBY2 := Hid.mk (isBytes_below HBY.out hb2)
    have HK2 := Hid.mk (HK.out.kept hb2)
    have k5 := HK2.out.c5
    clear hB hb2 HBY HK HCO HRO HS
    go_wp2_with fail
    refine (HOF.out _ HBY2.out).mono ?_
    rintro e w3 ⟨rfl, hb3⟩
    have hbel3 := bl2 hbel2 hb3
    have HK3 := Hid.mk (HK2.out.kept hb3)
    clear hbel2 hb3 HBY2 HK2 k5 HOF
    have r0 := fun d os => (HK3.out.regrown d os).c0
    have r1 := fun d os => (HK3.out.regrown d os).c1
    have r2 := fun d os => (HK3.out.regrown d os).c2
    have r3 := fun d os => (HK3.out.regrown d os).c3
    have r4 := fun d os => (HK3.out.regrown d os).c4
    have r5 := fun d os => (HK3.out.regrown d os).c5
    go_wp2_with fail
    refine wp_region_quiet_below (by kernel_rfl) (by kernel_rfl) ?_
    set_option maxRecDepth 100000 in
    repeat (go_big_quiet_step (first
      | (go_at_call 19; exact Calls.regrown_of (HNM.out _))
      | (go_at_call 53; exact Calls.regrown_of (HFM.out _))))
    refine wpQuiet_nil ?_
    intro _ hw'
    obtain ⟨⟨dq, osq⟩, hw''⟩ := hw'
    subst hw''
    have hbq := bl2 hbel3 (below_regrown w3 dq osq)
    clear r0 r1 r2 r3 r4 r5 hbel3
    go_wp2_with fail
    go_ret
    obtain ⟨l1, l2, l3, l4⟩ := HL.out
    exact ⟨ret_str1 (by rw [HFIN.out, ba_cat, ba_cat, ba_cat, ba_cat, l1, l2, l3, l4]), hbq⟩
end Bw
end Go.Proofs.YtjeogdfejnoanacGreatDoor

/- What frame.Bits answers of any frame. -/
namespace Go.Proofs.YtjeogdfejnoanacGreatDoor
open Go.ChangeShapes Go.WideShapes Go.ChangeAt Go.RowKit
namespace Bw
open Bm Cm

def bitsA (f : Fr) : Value := if frE f = 0 then .tuple #[.string ⟨(bitsL f).toArray⟩, .int .i64 0] else .tuple #[.string ⟨#[]⟩, .int .i64 (frE f)]
set_option maxHeartbeats 4000000 in
theorem frBits_bad (f : Fr) (a : Option Addr) (len cap : Nat) (w : World) (hS : SizesAt w) (hl : len ≤ maxLen) (hd : f.dt.length = len) (hE : frE f ≠ 0) :
    Calls Tryz.prog 7 #[frameV f.id f.lo f.fa f.re f.sz a len cap] w fun e w' => e = .returned (.tuple #[.string ⟨#[]⟩, .int .i64 (frE f)]) ∧ Below w.heap.size w w' := by
  have hB := below_box w f.id f.lo f.fa f.re f.sz a len cap
  have hck := frCheck_any f.id f.lo f.fa f.re f.sz a len cap _ (hS.kept hB) hl
  have hE' : frEn f.id f.lo f.fa f.re f.sz len = frE f := by unfold frE; rw [hd]
  rw [hE'] at hck
  unfold frameC at hB hck
  unfold frameV at hck ⊢
  have HCK := Hid.mk hck
  have hne : (frE f != 0) = true := by simpa using hE
  clear hS hl hd hck hE' hE
  generalize frE f = ce at *
  go_enter Tryz.func7, Tryz.ntmps7
  go_wp2_with fail
  refine HCK.out.mono ?_
  rintro e w1 ⟨rfl, hb1⟩
  have hbel1 := bl2 hB hb1
  clear hB hb1
  go_wp2_with fail
  go_ret2
  exact ⟨rfl, hbel1⟩
set_option maxHeartbeats 8000000 in
theorem frBits_ok (f : Fr) (a : Option Addr) (len cap : Nat) (w : World) (hS : SizesAt w) (hR : RulesAt w) (hr : IsBytes w a len cap f.dt) (hE : frE f = 0) :
    Calls Tryz.prog 7 #[frameV f.id f.lo f.fa f.re f.sz a len cap] w fun e w' => e = .returned (.tuple #[.string ⟨(bitsL f).toArray⟩, .int .i64 0]) ∧ Below w.heap.size w w' := by
  obtain ⟨e1, e2, e3, e4, e5, e6, e7, e8, e9⟩ := frE_ok hE
  have hdl : f.dt.length = len := hr.1
  have hB := below_box w f.id f.lo f.fa f.re f.sz a len cap
  have hK := FrAt.box w f.id f.lo f.fa f.re f.sz a len cap
  have hck := frCheck_any f.id f.lo f.fa f.re f.sz a len cap _ (hS.kept hB) (by unfold maxLen; omega)
  have hE' : frEn f.id f.lo f.fa f.re f.sz len = 0 := by rw [← hE]; unfold frE; rw [hdl]
  rw [hE'] at hck
  have hhd := fun W hW hBy => head_any f a len cap W hW hE hBy
  have hHr := headL_row f
  have hHn := (headL_le f e7).2
  have hH1 := (headL_le f e7).1
  have hHl := mk_list (headL f)
  generalize ByteArray.mk (headL f).toArray = H at *
  have hHs : H.size = (headL f).length := ba_size hHl
  have hHc : checkE H.data.toList = 0 := checkE_row (by rw [hHl]; exact hHr) (by simp; omega)
  unfold frameC at hB hK hck
  unfold frameV at hhd hck ⊢
  have HCK := Hid.mk hck
  have H1 := Hid.mk hhd
  have HK := Hid.mk hK
  have HS := Hid.mk (hS.kept hB)
  have HR := Hid.mk (hR.kept hB)
  have HB := Hid.mk (isBytes_below hr hB)
  have hHz : H.size ≤ 553 := by omega
  have hlen : len ≤ 64 := by omega
  cases hfa : f.fa
  · have hbl : bitsL f = putF (headL f ++ sumL 0 (headL f)) ++ onesL := by unfold bitsL; rw [hfa]; rfl
    have hso := fun W hW => sum_ok 0 H W hW hHc (by omega)
    rw [hHl] at hso
    have hSl := mk_list (sumL 0 (headL f))
    have hSn := sumL_len 0 (headL f)
    have hSr := sumL_row 0 (headL f)
    generalize sumL 0 (headL f) = sl at *
    generalize ByteArray.mk sl.toArray = S at *
    have hk0 : kS 0 = 15 := rfl
    have hSz : S.size ≤ 15 := by rw [ba_size hSl, hSn, hk0]; exact Nat.le_refl _
    obtain ⟨Y, hY⟩ : ∃ Y, Y = H ++ S := ⟨_, rfl⟩
    have hYl : Y.data.toList = headL f ++ sl := by rw [hY, ba_cat, hHl, hSl]
    have hYs : Y.size = (headL f).length + sl.length := by rw [ba_size hYl, List.length_append]
    have hpu := fun W => put_ok Y W (checkE_row (by rw [hYl, rowB_append, hHr, hSr]; rfl) (by simp; omega))
    rw [hYl] at hpu
    have hPl := mk_list (putF (headL f ++ sl))
    have hPn := putF_len2 (headL f ++ sl)
    rw [List.length_append] at hPn
    simp only [hY] at hpu
    generalize putF (headL f ++ sl) = pl at *
    generalize ByteArray.mk pl.toArray = P at *
    have hPz : P.size ≤ 1200 := by rw [ba_size hPl]; omega
    have H2 := Hid.mk hso
    have H3 := Hid.mk hpu
    have HPL := Hid.mk hPl
    have HBL := Hid.mk hbl
    rw [hfa] at H1 HK hB HCK HS HR HB
    clear hhd hHr hHn hH1 hHl hHs hK hS hR hr hbl hso hSl hSn hSr hk0 hYl hYs hpu hPl hPn e1 e2 e3 e4 e5 e6 e7 e8 e9 hE hdl hY hHc hck hE'
    go_enter Tryz.func7, Tryz.ntmps7
    go_wp2_with fail
    refine HCK.out.mono ?_
    rintro e w0 ⟨rfl, hb0⟩
    have hbel0 := bl2 hB hb0
    obtain ⟨k0, k1, k2, k3, k4, k5⟩ := HK.out.kept hb0
    have HK0 := Hid.mk (HK.out.kept hb0)
    have HS0 := Hid.mk (HS.out.kept hb0)
    have HR0 := Hid.mk (HR.out.kept hb0)
    have HB0 := Hid.mk (isBytes_below HB.out hb0)
    clear hB hb0 HK HS HR HB HCK
    go_wp2_with fail
    refine (H1.out _ HS0.out HB0.out).mono ?_
    rintro e w1 ⟨rfl, hb1⟩
    have hbel1 := bl2 hbel0 hb1
    have j2 := (HK0.out.kept hb1).c2
    have HR1 := Hid.mk (HR0.out.kept hb1)
    clear hb1 hbel0 k0 k1 k2 k3 k4 k5 HK0 HS0 HR0 HB0 H1
    go_wp2_with fail
    refine (H2.out _ HR1.out).mono ?_
    rintro e w2 ⟨rfl, hb2⟩
    have hbel2 := bl2 hbel1 hb2
    clear hb2 hbel1 j2
    go_wp2_with fail
    refine (H3.out _).mono ?_
    rintro e w3 ⟨rfl, hb3⟩
    have hbel3 := bl2 hbel2 hb3
    clear hb3 hbel2
    go_wp2_with fail
    go_ret2
    exact ⟨ret_str2 (by rw [HBL.out, ba_cat, HPL.out]; rfl), hbel3⟩
  · have hbl : bitsL f = putF (headL f) ++ fastL (headL f) (putF (headL f)) f.dt.length ++ onesL := by unfold bitsL; rw [hfa]; rfl
    rw [fastL_fixed, hdl] at hbl
    have hpu := fun W => put_ok H W hHc
    rw [hHl] at hpu
    have hPl := mk_list (putF (headL f))
    have hPr := putF_row (headL f) hHr
    obtain ⟨kk, hk1, hk2⟩ := putF_most (headL f) hHr
    generalize hpp : putF (headL f) = pl at *
    generalize ByteArray.mk pl.toArray = P at *
    have hPs : P.size = pl.length := ba_size hPl
    have hPz : P.size ≤ 900 := by omega
    have hfe := fun W hW => fixedPart_any P (pl.length - (headL f).length) len W hW (by omega) (by omega) (by rw [hPl]; exact hPr) (by omega)
    rw [hPl] at hfe
    have hq : ((pl.length - (headL f).length : Nat) : Int) = (P.size : Int) - (H.size : Int) := by omega
    simp only [hq] at hfe
    have hFl := mk_list (fixedL pl (pl.length - (headL f).length) len)
    have hFn : (fixedL pl (pl.length - (headL f).length) len).length ≤ 32 := by rw [fixedL_len]; split <;> omega
    generalize fixedL pl (pl.length - (headL f).length) len = fl at *
    generalize ByteArray.mk fl.toArray = F at *
    have hFz : F.size ≤ 32 := by rw [ba_size hFl]; exact hFn
    have hHP : (H.size : Int) ≤ (P.size : Int) := by omega
    have H2 := Hid.mk hpu
    have H3 := Hid.mk hfe
    have HPL := Hid.mk hPl
    have HFL := Hid.mk hFl
    have HBL := Hid.mk hbl
    rw [hfa] at H1 HK hB HCK HS HR HB
    clear hhd hHr hHn hH1 hHl hHs hK hS hR hr hbl hpu hPl hPr hk1 hk2 hpp hPs hfe hFl hFn e1 e2 e3 e4 e5 e6 e7 e8 e9 hE hdl hHc hck hE' hq
    go_enter Tryz.func7, Tryz.ntmps7
    go_wp2_with fail
    refine HCK.out.mono ?_
    rintro e w0 ⟨rfl, hb0⟩
    have hbel0 := bl2 hB hb0
    obtain ⟨k0, k1, k2, k3, k4, k5⟩ := HK.out.kept hb0
    have HK0 := Hid.mk (HK.out.kept hb0)
    have HS0 := Hid.mk (HS.out.kept hb0)
    have HR0 := Hid.mk (HR.out.kept hb0)
    have HB0 := Hid.mk (isBytes_below HB.out hb0)
    clear hB hb0 HK HS HR HB HCK
    go_wp2_with fail
    refine (H1.out _ HS0.out HB0.out).mono ?_
    rintro e w1 ⟨rfl, hb1⟩
    have hbel1 := bl2 hbel0 hb1
    have j2 := (HK0.out.kept hb1).c2
    have HK1 := Hid.mk (HK0.out.kept hb1)
    have HR1 := Hid.mk (HR0.out.kept hb1)
    clear hb1 hbel0 k0 k1 k2 k3 k4 k5 HK0 HS0 HR0 HB0 H1
    go_wp2_with fail
    refine (H2.out _).mono ?_
    rintro e w2 ⟨rfl, hb2⟩
    have hbel2 := bl2 hbel1 hb2
    have m5 := (HK1.out.kept hb2).c5
    have HR2 := Hid.mk (HR1.out.kept hb2)
    clear hb2 hbel1 j2 HK1 HR1
    go_wp2_with fail
    refine (H3.out _ HR2.out).mono ?_
    rintro e w3 ⟨rfl, hb3⟩
    have hbel3 := bl2 hbel2 hb3
    clear hb3 hbel2 m5
    go_wp2_with fail
    go_ret2
    exact ⟨ret_str2 (by rw [HBL.out, ba_cat, ba_cat, HPL.out, HFL.out]; rfl), hbel3⟩
theorem frBits_any (f : Fr) (a : Option Addr) (len cap : Nat) (w : World) (hS : SizesAt w) (hR : RulesAt w) (hr : IsBytes w a len cap f.dt) :
    Calls Tryz.prog 7 #[frameV f.id f.lo f.fa f.re f.sz a len cap] w fun e w' => e = .returned (bitsA f) ∧ Below w.heap.size w w' := by
  unfold bitsA
  by_cases hE : frE f = 0
  · rw [if_pos hE]; exact frBits_ok f a len cap w hS hR hr hE
  · rw [if_neg hE]; exact frBits_bad f a len cap w hS (by have := hr.2.1; have := hr.2.2.1; omega) hr.1 hE
end Bw
end Go.Proofs.YtjeogdfejnoanacGreatDoor

/- What is sent is read by frame.Read, whatever follows. -/
namespace Go.Proofs.YtjeogdfejnoanacGreatDoor
open Go.ChangeShapes Go.WideShapes Go.ChangeAt Go.RowKit
namespace Bw
open Bm Cm

theorem fixR_row (l : List UInt8) (a : UInt8) (hl : rowB l = true) : ∀ i, i ≤ l.length → rowB (fixR l a i) = true
  | 0, _ => rfl
  | i + 1, h => by
    have ih := fixR_row l a hl i (by omega)
    have hb : bit (l.getD i 0) = true := by
      have hi : i < l.length := by omega
      rw [List.getD, List.getElem?_eq_getElem hi, Option.getD_some]
      exact rowB_all.1 hl _ (List.getElem_mem hi)
    rw [fixR, rowB_snoc, hb, Bool.and_true]
    split
    · rw [rowB_snoc, ih, otb_bit]; rfl
    · exact ih
theorem fixedL_row (p : List UInt8) (q n : Nat) : rowB (fixedL p q n) = true := by
  unfold fixedL fixL
  exact fixR_row _ _ (by rw [rowB_append, (gray_row _ (Nat.mod_lt _ (by omega))).1, sumL_row]; rfl) _ (Nat.le_refl _)
theorem preL_row (f : Fr) : rowB (preL f) = true := by
  unfold preL
  split
  · rw [rowB_append, putF_row _ (headL_row f), fastL_fixed, fixedL_row]; rfl
  · exact putF_row _ (by rw [rowB_append, headL_row, sumL_row]; rfl)
theorem preL_len (f : Fr) (hE : frE f = 0) : 1 ≤ (preL f).length ∧ (preL f).length ≤ 750 := by
  obtain ⟨-, -, -, -, -, -, e7, e8, -⟩ := frE_ok hE
  obtain ⟨h1, h2⟩ := headL_le f e7
  unfold preL
  split
  · obtain ⟨k, hk1, hk2⟩ := putF_most (headL f) (headL_row f)
    rw [List.length_append, fastL_fixed, fixedL_len]
    split <;> omega
  · obtain ⟨k, hk1, hk2⟩ := putF_most (headL f ++ sumL 0 (headL f)) (by rw [rowB_append, headL_row, sumL_row]; rfl)
    have hs : (sumL 0 (headL f)).length = 15 := sumL_len 0 _
    rw [List.length_append, hs] at hk1 hk2
    omega
theorem bitsL_len (f : Fr) : (bitsL f).length = (preL f).length + 10 := by rw [bitsL_pre, List.length_append]; rfl
theorem bitsL_row (f : Fr) : rowB (bitsL f) = true := by rw [bitsL_pre, rowB_append, preL_row]; rfl

theorem readBack_any (f : Fr) (e rest : List UInt8) (T : ByteArray) (w : World) (hS : SizesAt w) (hR : RulesAt w) (hE : frE f = 0) (he : e = onesL ∨ e = heardL) (hT : T.data.toList = preL f ++ (e ++ rest)) (hr : rowB rest = true) (hn : T.size ≤ 1000) :
    Calls Tryz.prog 15 #[.string T] w fun x w' => ∃ a len cap, x = .returned (.tuple #[frameV f.id f.lo f.fa f.re f.sz a len cap, .int .i64 ((preL f).length + 10 : Nat), .int .i64 0]) ∧ IsBytes w' a len cap f.dt ∧ Below w.heap.size w w' := by
  have her : rowB e = true := by rcases he with rfl | rfl <;> rfl
  have hrow : rowB T.data.toList = true := by rw [hT, rowB_append, rowB_append, preL_row, her, hr]; rfl
  have hl : T.data.toList.length = T.size := by simp
  have hc := checkE_row hrow (by omega)
  obtain ⟨b1, b2, b3⟩ := read_back f e rest hE he
  rw [← hT] at b1 b2 b3
  refine (read_ok T w hS hR hc).mono ?_
  rintro x w' ⟨-, h2, h3⟩
  obtain ⟨a, len, cap, hx, hby⟩ := h2 b1
  rw [b2, b3] at hx
  rw [b3] at hby
  exact ⟨a, len, cap, hx, hby, h3⟩
end Bw
end Go.Proofs.YtjeogdfejnoanacGreatDoor

/- What slices.Equal answers of two slices that hold the same bytes: true. -/
namespace Go.Proofs.YtjeogdfejnoanacGreatDoor
open Go.ChangeShapes Go.WideShapes Go.ChangeAt Go.RowKit
namespace Bw
open Bm

def HasBytes (w : World) (a : Option Addr) (n : Nat) (l : List UInt8) : Prop :=
  (a = none → n = 0) ∧ ∀ x, a = some x → ∀ i, i < n → w.cell? (x.add i) = some (.int .u8 (l.getD i 0).toNat)

set_option maxHeartbeats 1000000 in
theorem equalB_true (w : World) (a b : Option Addr) (n c d : Nat) (l : List UInt8) (hn : n ≤ maxLen) (ha : HasBytes w a n l) (hb : HasBytes w b n l) :
    Calls Tryz.prog 30 #[.slice a n c, .slice b n d] w fun e w' => e = .returned (.bool true) ∧ Below w.heap.size w w' := by
  have HA := Hid.mk ha
  have HB := Hid.mk hb
  unfold maxLen at hn
  clear ha hb
  go_enter Tryz.func30, Tryz.ntmps30
  go_wp2
  go_loopw [13] (fun i w' => ∃ k : Nat, k ≤ n ∧ i = .int .i64 k ∧ ∃ m, w' = w.drewN m) (fun i _ => n - (intOf i).toNat)
  case atStart => exact ⟨0, Nat.zero_le _, rfl, 0, rfl⟩
  case round =>
    obtain ⟨k, hk, rfl, m, rfl⟩ := hrel
    by_cases hlt : k < n
    · cases a with
      | none => exact absurd (HA.out.1 rfl) (by omega)
      | some x =>
        cases b with
        | none => exact absurd (HB.out.1 rfl) (by omega)
        | some y =>
          have g1 := HA.out.2 x rfl k hlt
          have g2 := HB.out.2 y rfl k hlt
          have hlt' : (k : Int) < (n : Int) := by omega
          go_wp2
          go_quiet (fail)
          go_wp2
          go_roundw
          case rel => exact ⟨k + 1, by omega, by go_num, _, rfl⟩
          case measure => simp [intOf]; omega
    · go_wp2
      go_ret
      exact ⟨rfl, ⟨rfl, rfl, rfl, Nat.le_refl _, fun _ _ => rfl⟩⟩
end Bw
end Go.Proofs.YtjeogdfejnoanacGreatDoor

/- What the document's own SameFrame answers of frames that are alike. -/
namespace Go.Proofs.YtjeogdfejnoanacGreatDoor
open Go.ChangeShapes Go.WideShapes Go.ChangeAt Go.RowKit
namespace Bw
open Bm Cm

set_option maxHeartbeats 8000000 in
theorem sameFrame_true (f : Fr) (a1 a2 : Option Addr) (n1 c1 n2 c2 : Nat) (w : World) (h1 : IsBytes w a1 n1 c1 f.dt) (h2 : IsBytes w a2 n2 c2 f.dt) :
    Calls Tryz.prog 11 #[frameV f.id f.lo f.fa f.re f.sz a1 n1 c1, frameV f.id f.lo f.fa f.re f.sz a2 n2 c2] w fun e w' => e = .returned (.bool true) ∧ Below w.heap.size w w' := by
  obtain ⟨id, lo, fa, re, sz, dt⟩ := f
  simp only at h1 h2 ⊢
  have hB1 := below_box w id lo fa re sz a1 n1 c1
  have hB2 := below_box (w.alloc (frameC id lo fa re sz a1 n1 c1)) id lo fa re sz a2 n2 c2
  have hB := bl2 hB1 hB2
  have hn : n1 = n2 := h1.1.symm.trans h2.1
  subst hn
  have hmx : n1 ≤ maxLen := by have := h1.2.1; have := h1.2.2.1; omega
  have hY1 := isBytes_below h1 hB
  have hY2 := isBytes_below h2 hB
  have hbe := equalB_true _ a1 a2 n1 c1 c2 dt hmx ⟨hY1.2.2.2.1, hY1.2.2.2.2⟩ ⟨hY2.2.2.2.1, hY2.2.2.2.2⟩
  have HBE := Hid.mk hbe
  have HB := Hid.mk hB
  unfold frameC at HBE HB
  unfold frameV
  clear h1 h2 hB1 hB2 hB hbe hY1 hY2 hmx
  go_enter Tryz.func11, Tryz.ntmps11
  go_wp2_with fail
  refine HBE.out.mono ?_
  rintro e w1 ⟨rfl, hb1⟩
  have hbel := bl2 HB.out hb1
  clear hb1
  go_wp2_with fail
  go_ret
  exact ⟨rfl, hbel⟩
end Bw
end Go.Proofs.YtjeogdfejnoanacGreatDoor

/- Contracts of Go's library that the kit proves once, laid at this program: no walk, one application each. -/
namespace Go.Proofs
open Go.Shelf
def Tryz.lays99_ren : Go.Shelf.Ren := ⟨fun | 99 => 26 | 206 => 61 | n => n, fun | 9 => 9 | 4 => 4 | 3 => 3 | n => n, fun | n => n⟩
theorem Tryz.lays99 : Go.Proofs.Lays.n99 Tryz.prog Tryz.lays99_ren := {
  mixed := by kernel_rfl
  f99 := Tryz.func26.trans (congrArg some (by kernel_rfl))
  f206 := Tryz.func61.trans (congrArg some (by kernel_rfl))
  t3 := Tryz.underlying3
  a3 := Tryz.isAgg3
  z3 := Tryz.sizeOf3
  v3 := Tryz.zeroValue3
  t4 := Tryz.underlying4
  a4 := Tryz.isAgg4
  z4 := Tryz.sizeOf4
  v4 := Tryz.zeroValue4
  t9 := Tryz.underlying9
  a9 := Tryz.isAgg9
  z9 := Tryz.sizeOf9
  v9 := Tryz.zeroValue9 }
open Go.RowKit Go.Lib in
theorem Tryz.strings_HasPrefix (s p : ByteArray) (w : World) :
    Calls Tryz.prog 26 #[.string s, .string p] w fun e w' => e = .returned (.bool (Lib.hasPrefix s.data.toList p.data.toList)) ∧ w' = w := Any.strings_HasPrefix Tryz.lays99 s p w
end Go.Proofs

/- The closed fact that each law of frames asks for: a frame, there and back. -/
namespace Go.Proofs.YtjeogdfejnoanacGreatDoor
open Go.ChangeShapes Go.WideShapes Go.ChangeAt Go.RowKit
namespace Bw
open Bm Cm

def fr5 : Fr := ⟨5, false, false, false, 0, [1, 255]⟩
theorem fr5_ok : frE fr5 = 0 := by decide +kernel
theorem fr5_pre : Lib.hasPrefix (bitsL fr5) [48, 48, 48, 48, 48, 49, 48, 48, 48, 48, 49, 48, 49] = true := by decide +kernel
def d5C : Obj := .cells #[.int .u8 1, .int .u8 255] 5
theorem d5_bytes (w : World) : IsBytes (w.alloc d5C) (some ⟨w.heap.size, 0, none⟩) 2 2 [1, 255] := by
  refine ⟨rfl, Nat.le_refl _, by unfold maxLen; decide, (fun h => by cases h), ?_⟩
  intro x hx i hi
  cases hx
  have e : (Addr.add ⟨w.heap.size, 0, none⟩ i) = ⟨w.heap.size, i, none⟩ := by simp [Addr.add]; exact fun h => h.symm
  rw [e, cell_of_row _ _ i _ _ _ (heap_alloc_new w d5C)]
  match i, hi with
  | 0, _ => rfl
  | 1, _ => rfl

set_option maxHeartbeats 8000000 in
theorem framed_any (w : World) (hS : SizesAt w) (hR : RulesAt w) :
    Calls Tryz.prog 9 #[] w fun e w' => e = .returned (.bool true) ∧ Below w.heap.size w w' := by
  have hB0 : Below w.heap.size w (w.alloc d5C) := (Below.refl _ _).alloc (Nat.le_refl _) _
  have hB1 := bl2 hB0 (below_box (w.alloc d5C) 5 false false false 0 (some ⟨w.heap.size, 0, none⟩) 2 2)
  have hK := FrAt.box (w.alloc d5C) 5 false false false 0 (some ⟨w.heap.size, 0, none⟩) 2 2
  have hY := isBytes_below (d5_bytes w) (below_box (w.alloc d5C) 5 false false false 0 (some ⟨w.heap.size, 0, none⟩) 2 2)
  have a1 := frBits_ok fr5 (some ⟨w.heap.size, 0, none⟩) 2 2 _ (hS.kept hB1) (hR.kept hB1) hY fr5_ok
  have hsz : (w.alloc d5C).heap.size = w.heap.size + 1 := by simp
  rw [hsz] at hK
  have hbl := bitsL_len fr5
  have hpl := preL_len fr5 fr5_ok
  have hBl := mk_list (bitsL fr5)
  have hpre := fr5_pre
  have hT : ∀ X : ByteArray, X.data.toList = bitsL fr5 → (X ++ ⟨#[49]⟩).data.toList = preL fr5 ++ (onesL ++ [49]) := by
    intro X hX
    rw [ba_cat, hX, bitsL_pre, List.append_assoc]
  have a2 := fun X W hX hSW hRW hn => readBack_any fr5 onesL [49] (X ++ ⟨#[49]⟩) W hSW hRW fr5_ok (.inl rfl) (hT X hX) (by decide) hn
  have a3 := fun W a len cap h1 h2 => sameFrame_true fr5 (some ⟨w.heap.size, 0, none⟩) a 2 2 len cap W h1 h2
  have a4 := fun X W => Tryz.strings_HasPrefix X ⟨#[48, 48, 48, 48, 48, 49, 48, 48, 48, 48, 49, 48, 49]⟩ W
  generalize ByteArray.mk (bitsL fr5).toArray = X at *
  have hXs : X.size = (preL fr5).length + 10 := by rw [ba_size hBl, hbl]
  have a4' := a4 X
  rw [hBl, hpre] at a4'
  have a2' := fun W hSW hRW => a2 X W hBl hSW hRW (by show (X ++ ⟨#[49]⟩).size ≤ 1000; rw [ByteArray.size_append]; show X.size + 1 ≤ 1000; omega)
  rw [← hXs] at a2'
  have hXm : X.size ≤ 760 := by omega
  have HA1 := Hid.mk a1
  have HA2 := Hid.mk a2'
  have HA3 := Hid.mk a3
  have HA4 := Hid.mk a4'
  have HK := Hid.mk hK
  have HY := Hid.mk hY
  have HB := Hid.mk hB1
  have HS := Hid.mk hS
  have HR := Hid.mk hR
  unfold frameC d5C at HA1 HK HY HB
  simp only [fr5] at HA1 HA2 HA3 HY
  unfold frameV at HA1 HA2 HA3
  clear a1 a2 a2' a3 a4 a4' hK hY hB0 hB1 hS hR hbl hpl hBl hpre hT hXs hsz
  go_enter Tryz.func9, Tryz.ntmps9
  go_wp2_with fail
  refine HA1.out.mono ?_
  rintro e w1 ⟨rfl, hb1⟩
  have HB1 := Hid.mk (bl2 HB.out hb1)
  have HK1 := Hid.mk (HK.out.kept hb1)
  have HY1 := Hid.mk (isBytes_below HY.out hb1)
  clear hb1 HB HK HY HA1
  go_wp2_with fail
  refine (HA2.out _ (HS.out.kept HB1.out) (HR.out.kept HB1.out)).mono ?_
  rintro e w2 ⟨a, len, cap, rfl, hby, hb2⟩
  have hb3 : Below w2.heap.size w2 (w2.alloc (.cells #[.int .i64 5, .bool false, .bool false, .bool false, .int .i64 0, .slice a len cap] 24)) := (Below.refl _ _).alloc (Nat.le_refl _) _
  have hb23 := bl2 hb2 hb3
  have HB3 := Hid.mk (bl2 HB1.out hb23)
  obtain ⟨k0, k1, k2, k3, k4, k5⟩ := HK1.out.kept hb23
  have HY3 := Hid.mk (isBytes_below HY1.out hb23)
  have HZ3 := Hid.mk (isBytes_below hby hb3)
  clear hb2 hby hb3 hb23 HB1 HK1 HY1 HA2
  go_wp2_with fail
  refine (HA3.out _ _ _ _ HY3.out HZ3.out).mono ?_
  rintro e w4 ⟨rfl, hb4⟩
  have HB4 := Hid.mk (bl2 HB3.out hb4)
  clear hb4 HB3 HY3 HZ3 HA3 k0 k1 k2 k3 k4 k5
  go_wp2_with fail
  refine (HA4.out _).mono ?_
  rintro e w5 ⟨rfl, hw5⟩
  subst hw5
  go_wp2_with fail
  go_ret
  exact ⟨rfl, HB4.out⟩
end Bw
end Go.Proofs.YtjeogdfejnoanacGreatDoor

/- What bytes.Equal and frame.Same answer. -/
namespace Go.Proofs.YtjeogdfejnoanacGreatDoor
open Go.ChangeShapes Go.WideShapes Go.ChangeAt Go.RowKit
namespace Bw
open Bm Cm

theorem convert_bytes {w : World} {a : Option Addr} {len cap : Nat} {l : List UInt8} (h : IsBytes w a len cap l) :
    (convert 22 9 (.slice a len cap)).run Tryz.prog w = .ok (.string ⟨l.toArray⟩) w := by
  obtain ⟨h1, h2, h3, h4, h5⟩ := h
  cases a with
  | none =>
    have h0 := h4 rfl
    subst h0
    have hl : l = [] := List.eq_nil_of_length_eq_zero h1
    subst hl
    exact run_convert_bytes_nil w 22 5 Tryz.underlying22 Tryz.underlying5 0 cap 9 Tryz.underlying9
  | some x =>
    have := run_convert_bytes_back w 22 9 5 x cap l Tryz.underlying22 Tryz.underlying5 Tryz.underlying9 (fun j hj => by
      rw [h5 x rfl j (by omega)]
      simp [List.getD, hj])
    rw [h1] at this
    exact this
theorem ba_listEq {A B : ByteArray} {x y : List UInt8} (hA : A.data.toList = x) (hB : B.data.toList = y) : (A.toList == B.toList) = decide (x = y) := by
  rw [ByteArray.toList_eq, ByteArray.toList_eq, hA, hB, Bool.eq_iff_iff, beq_iff_eq, decide_eq_true_iff]
set_option maxHeartbeats 1000000 in
theorem bytesEqual_any (a1 a2 : Option Addr) (n1 c1 n2 c2 : Nat) (l1 l2 : List UInt8) (w : World) (h1 : IsBytes w a1 n1 c1 l1) (h2 : IsBytes w a2 n2 c2 l2) :
    Calls Tryz.prog 31 #[.slice a1 n1 c1, .slice a2 n2 c2] w fun e w' => e = .returned (.bool (decide (l1 = l2))) ∧ w' = w := by
  have k1 := convert_bytes h1
  have k2 := convert_bytes h2
  have hl1 := mk_list l1
  have hl2 := mk_list l2
  have hz1 : l1.length ≤ maxLen := by rw [h1.1]; have := h1.2.1; have := h1.2.2.1; omega
  have hz2 : l2.length ≤ maxLen := by rw [h2.1]; have := h2.2.1; have := h2.2.2.1; omega
  generalize ByteArray.mk l1.toArray = A at *
  generalize ByteArray.mk l2.toArray = B at *
  have he := ba_listEq hl1 hl2
  rw [← he]
  clear h1 h2 hl1 hl2 he hz1 hz2
  go_enter Tryz.func31, Tryz.ntmps31
  go_wp2_with fail
  go_ret
  exact ⟨rfl, rfl⟩

set_option maxHeartbeats 8000000 in
theorem same_any (f g : Fr) (a1 a2 : Option Addr) (n1 c1 n2 c2 : Nat) (w : World) (h1 : IsBytes w a1 n1 c1 f.dt) (h2 : IsBytes w a2 n2 c2 g.dt) :
    Calls Tryz.prog 12 #[frameV f.id f.lo f.fa f.re f.sz a1 n1 c1, frameV g.id g.lo g.fa g.re g.sz a2 n2 c2] w fun e w' => e = .returned (.bool (decide (f = g))) ∧ Below w.heap.size w w' := by
  obtain ⟨id1, lo1, fa1, re1, sz1, dt1⟩ := f
  obtain ⟨id2, lo2, fa2, re2, sz2, dt2⟩ := g
  simp only at h1 h2 ⊢
  have hB1 := below_box w id1 lo1 fa1 re1 sz1 a1 n1 c1
  have hB2 := below_box (w.alloc (frameC id1 lo1 fa1 re1 sz1 a1 n1 c1)) id2 lo2 fa2 re2 sz2 a2 n2 c2
  have hB := bl2 hB1 hB2
  have HY1 := Hid.mk (isBytes_below h1 hB)
  have HY2 := Hid.mk (isBytes_below h2 hB)
  have HB := Hid.mk hB
  unfold frameC at HY1 HY2 HB
  unfold frameV
  clear h1 h2 hB1 hB2 hB
  by_cases hid : id1 = id2
  · subst hid
    by_cases hlo : lo1 = lo2
    · subst hlo
      by_cases hfa : fa1 = fa2
      · subst hfa
        by_cases hre : re1 = re2
        · subst hre
          by_cases hsz : sz1 = sz2
          · subst hsz
            by_cases hdt : dt1 = dt2
            · have hd : decide (dt1 = dt2) = true := by simpa using hdt
              have hbe := fun W hW1 hW2 => bytesEqual_any a1 a2 n1 c1 n2 c2 dt1 dt2 W hW1 hW2
              rw [hd] at hbe
              have HBE := Hid.mk hbe
              have hr : decide ((⟨id1, lo1, fa1, re1, sz1, dt1⟩ : Fr) = ⟨id1, lo1, fa1, re1, sz1, dt2⟩) = true := by simp [hdt]
              rw [hr]
              clear hbe hd hr hdt
              go_enter Tryz.func12, Tryz.ntmps12
              go_wp2_with fail
              refine (HBE.out _ HY1.out HY2.out).mono ?_
              rintro e w1 ⟨rfl, hw1⟩
              subst hw1
              go_wp2_with fail
              go_ret
              exact ⟨rfl, HB.out⟩
            · have hd : decide (dt1 = dt2) = false := by simpa using hdt
              have hbe := fun W hW1 hW2 => bytesEqual_any a1 a2 n1 c1 n2 c2 dt1 dt2 W hW1 hW2
              rw [hd] at hbe
              have HBE := Hid.mk hbe
              have hr : decide ((⟨id1, lo1, fa1, re1, sz1, dt1⟩ : Fr) = ⟨id1, lo1, fa1, re1, sz1, dt2⟩) = false := by simp [hdt]
              rw [hr]
              clear hbe hd hr hdt
              go_enter Tryz.func12, Tryz.ntmps12
              go_wp2_with fail
              refine (HBE.out _ HY1.out HY2.out).mono ?_
              rintro e w1 ⟨rfl, hw1⟩
              subst hw1
              go_wp2_with fail
              go_ret
              exact ⟨rfl, HB.out⟩
          · have hb : (sz1 == sz2) = false := by simpa using hsz
            have hr : decide ((⟨id1, lo1, fa1, re1, sz1, dt1⟩ : Fr) = ⟨id1, lo1, fa1, re1, sz2, dt2⟩) = false := by simp [hsz]
            rw [hr]
            clear hr hsz
            go_enter Tryz.func12, Tryz.ntmps12
            go_wp2_with fail
            go_ret
            exact ⟨rfl, HB.out⟩
        · have hb : (re1 == re2) = false := by simpa using hre
          have hr : decide ((⟨id1, lo1, fa1, re1, sz1, dt1⟩ : Fr) = ⟨id1, lo1, fa1, re2, sz2, dt2⟩) = false := by simp [hre]
          rw [hr]
          clear hr hre
          go_enter Tryz.func12, Tryz.ntmps12
          go_wp2_with fail
          go_ret
          exact ⟨rfl, HB.out⟩
      · have hb : (fa1 == fa2) = false := by simpa using hfa
        have hr : decide ((⟨id1, lo1, fa1, re1, sz1, dt1⟩ : Fr) = ⟨id1, lo1, fa2, re2, sz2, dt2⟩) = false := by simp [hfa]
        rw [hr]
        clear hr hfa
        go_enter Tryz.func12, Tryz.ntmps12
        go_wp2_with fail
        go_ret
        exact ⟨rfl, HB.out⟩
    · have hb : (lo1 == lo2) = false := by simpa using hlo
      have hr : decide ((⟨id1, lo1, fa1, re1, sz1, dt1⟩ : Fr) = ⟨id1, lo2, fa2, re2, sz2, dt2⟩) = false := by simp [hlo]
      rw [hr]
      clear hr hlo
      go_enter Tryz.func12, Tryz.ntmps12
      go_wp2_with fail
      go_ret
      exact ⟨rfl, HB.out⟩
  · have hb : (id1 == id2) = false := by simpa using hid
    have hr : decide ((⟨id1, lo1, fa1, re1, sz1, dt1⟩ : Fr) = ⟨id2, lo2, fa2, re2, sz2, dt2⟩) = false := by simp [hid]
    rw [hr]
    clear hr hid
    go_enter Tryz.func12, Tryz.ntmps12
    go_wp2_with fail
    go_ret
    exact ⟨rfl, HB.out⟩
end Bw
end Go.Proofs.YtjeogdfejnoanacGreatDoor

/- What frame.Name answers. -/
namespace Go.Proofs.YtjeogdfejnoanacGreatDoor
open Go.ChangeShapes Go.WideShapes Go.ChangeAt Go.RowKit
namespace Bw
open Bm Cm

def nameA (f : Fr) : Value := if frE f = 0 then .tuple #[.string ⟨(nameL f).toArray⟩, .int .i64 0] else .tuple #[.string ⟨#[]⟩, .int .i64 (frE f)]
set_option maxHeartbeats 4000000 in
theorem frName_any (f : Fr) (a : Option Addr) (len cap : Nat) (w : World) (hS : SizesAt w) (hl : len ≤ maxLen) (hd : f.dt.length = len) :
    Calls Tryz.prog 6 #[frameV f.id f.lo f.fa f.re f.sz a len cap] w fun e w' => e = .returned (nameA f) ∧ Below w.heap.size w w' := by
  have hB := below_box w f.id f.lo f.fa f.re f.sz a len cap
  have hK := FrAt.box w f.id f.lo f.fa f.re f.sz a len cap
  have hck := frCheck_any f.id f.lo f.fa f.re f.sz a len cap _ (hS.kept hB) hl
  have hE : frEn f.id f.lo f.fa f.re f.sz len = frE f := by unfold frE; rw [hd]
  rw [hE] at hck
  have hnm := fun W h0 h1 => name_any f a len cap W h0 h1
  have hok := fun h => frE_ok (f := f) h
  unfold frameC at hB hK hck
  unfold frameV at hnm hck ⊢
  unfold nameA
  have HK := Hid.mk hK
  have HCK := Hid.mk hck
  have HNM := Hid.mk hnm
  have HOK := Hid.mk hok
  clear hS hl hd hK hck hnm hE hok
  by_cases hE : frE f = 0
  · rw [if_pos hE]
    obtain ⟨q1, q2, -⟩ := HOK.out hE
    have HQ1 := Hid.mk q1
    have HQ2 := Hid.mk q2
    rw [hE] at HCK
    clear hE q1 q2
    go_enter Tryz.func6, Tryz.ntmps6
    go_wp2_with fail
    refine HCK.out.mono ?_
    rintro e w1 ⟨rfl, hb1⟩
    have hbel1 := bl2 hB hb1
    obtain ⟨k0, k1, k2, k3, k4, k5⟩ := HK.out.kept hb1
    clear hB hb1
    go_wp2_with fail
    refine (HNM.out _ HQ1.out HQ2.out).mono ?_
    rintro e w2 ⟨rfl, hb2⟩
    have hbel2 := bl2 hbel1 hb2
    clear hbel1 hb2 k0 k1 k2 k3 k4 k5
    go_wp2_with fail
    go_ret2
    exact ⟨rfl, hbel2⟩
  · rw [if_neg hE]
    have hne : (frE f != 0) = true := by simpa using hE
    generalize frE f = ce at *
    go_enter Tryz.func6, Tryz.ntmps6
    go_wp2_with fail
    refine HCK.out.mono ?_
    rintro e w1 ⟨rfl, hb1⟩
    have hbel1 := bl2 hB hb1
    clear hB hb1
    go_wp2_with fail
    go_ret2
    exact ⟨rfl, hbel1⟩

end Bw
end Go.Proofs.YtjeogdfejnoanacGreatDoor

/- What the document's own OwnFrame answers. -/
namespace Go.Proofs.YtjeogdfejnoanacGreatDoor
open Go.ChangeShapes Go.WideShapes Go.ChangeAt Go.RowKit
namespace Bw
open Bm Cm Go.Sort

theorem frame_iO : (Tryz.prog.info? 24).map (·.size) = some 6 := by kernel_rfl
theorem isBytes_tchO {gs : List Nat} {w w' : World} {a : Option Addr} {len cap : Nat} {l : List UInt8} (hb : IsBytes w a len cap l) (ht : Tch gs w w') (hg : ∀ x, a = some x → x.block ∉ gs) : IsBytes w' a len cap l := by
  refine ⟨hb.1, hb.2.1, hb.2.2.1, hb.2.2.2.1, fun x hx i hi => ?_⟩
  have hv := hb.2.2.2.2 x hx i hi
  have hlt := block_lt_of_cell hv
  have hblk : (x.add i).block = x.block := by unfold Addr.add; split <;> rfl
  unfold World.cell? at hv ⊢
  rw [ht.block _ hlt (by rw [hblk]; exact hg x hx)]
  exact hv
theorem isBytes_ownO {w : World} {base : Nat} {v : Value} {n : Nat} {l : List UInt8} (h : w.ownsRow base 5 1 v n (cellsOf l)) :
    ∃ a cap, v = .slice a n cap ∧ IsBytes w a n cap l ∧ ∀ x, a = some x → base ≤ x.block := by
  have h0 := h
  obtain ⟨hl, h2⟩ := h
  have hn : l.length = n := by simpa [cellsOf] using hl
  rcases h2 with ⟨rfl, h1⟩ | ⟨g, cap, cur, rfl, hg, hh, hc, hm, hsz, htk⟩
  · subst h1; exact ⟨none, 0, rfl, ⟨hn, Nat.le_refl _, Nat.zero_le _, (fun _ => rfl), (fun x hx => by cases hx)⟩, fun x hx => by cases hx⟩
  · refine ⟨some ⟨g, 0, none⟩, cap, rfl, ⟨hn, hc, hm, (fun h => by cases h), fun x hx i hi => ?_⟩, fun x hx => by cases hx; exact hg⟩
    cases hx
    exact h0.cells rfl i _ (by simp [cellsOf, hn, hi])
def zC : Obj := .cells #[.int .i64 0, .bool false, .bool false, .bool false, .int .i64 0, .slice none 0 0] 24
/-- behind the append -/
theorem own_end (id : Int) (lo fa re : Bool) (sz : Int) (a : Option Addr) (len cap : Nat) (ao : Option Addr) (co : Nat) (dt : List UInt8) (w w3 : World)
    (hB : Below w.heap.size w w3) (_hz1 : w3.heap[w.heap.size]? = some (.cells #[.int .i64 id, .bool lo, .bool fa, .bool re, .int .i64 sz, .slice a len cap] 24 (0, 0)))
    (hz2 : w3.heap[w.heap.size + 1]? = some (.cells #[.int .i64 0, .bool false, .bool false, .bool false, .int .i64 0, .slice none 0 0] 24 (0, 0)))
    (hby : IsBytes w3 ao len co dt) (hblk : ∀ x, ao = some x → w.heap.size + 2 ≤ x.block) :
    let wF := (((((((w3.setCell ⟨w.heap.size, 5, none⟩ (.slice ao len co)).setCell ⟨(w.heap.size + 1), 0, none⟩ (.int .i64 id)).setCell ⟨(w.heap.size + 1), 1, none⟩ (.bool lo)).setCell ⟨(w.heap.size + 1), 2, none⟩ (.bool fa)).setCell ⟨(w.heap.size + 1), 3, none⟩ (.bool re)).setCell ⟨(w.heap.size + 1), 4, none⟩ (.int .i64 sz)).setCell ⟨(w.heap.size + 1), 5, none⟩ (.slice ao len co))
    wF.heap[w.heap.size + 1]? = some (.cells #[.int .i64 id, .bool lo, .bool fa, .bool re, .int .i64 sz, .slice ao len co] 24 (0, 0)) ∧ IsBytes wF ao len co dt ∧ Below w.heap.size w wF := by
  intro wF
  have hT1 : Tch [w.heap.size, w.heap.size + 1] w3 wF := ((((((((Tch.refl [w.heap.size, w.heap.size + 1] w3).setK (by simp) _ _).setK (by simp) _ _).setK (by simp) _ _).setK (by simp) _ _).setK (by simp) _ _).setK (by simp) _ _).setK (by simp) _ _)
  have hz2s : (w3.setCell ⟨w.heap.size, 5, none⟩ (.slice ao len co)).heap[w.heap.size + 1]? = some (.cells #[.int .i64 0, .bool false, .bool false, .bool false, .int .i64 0, .slice none 0 0] 24 (0, 0)) := by
    rw [Below.heap_setCell _ _ _ _ (by simp)]; exact hz2
  have kc0 := cell_of_row (w3.setCell ⟨w.heap.size, 5, none⟩ (.slice ao len co)) (w.heap.size + 1) 0 _ _ _ hz2s
  have kz0 := frozen_of_row (w3.setCell ⟨w.heap.size, 5, none⟩ (.slice ao len co)) (w.heap.size + 1) 0 _ _ hz2s
  have ks0 := heap_setCell_same (w3.setCell ⟨w.heap.size, 5, none⟩ (.slice ao len co)) (w.heap.size + 1) 0 _ _ (.int .i64 id) hz2s
  simp only [List.setIfInBounds_toArray, List.set_cons_zero] at ks0
  simp at kc0
  have kc1 := cell_of_row ((w3.setCell ⟨w.heap.size, 5, none⟩ (.slice ao len co)).setCell ⟨(w.heap.size + 1), 0, none⟩ (.int .i64 id)) (w.heap.size + 1) 1 _ _ _ ks0
  have kz1 := frozen_of_row ((w3.setCell ⟨w.heap.size, 5, none⟩ (.slice ao len co)).setCell ⟨(w.heap.size + 1), 0, none⟩ (.int .i64 id)) (w.heap.size + 1) 1 _ _ ks0
  have ks1 := heap_setCell_same ((w3.setCell ⟨w.heap.size, 5, none⟩ (.slice ao len co)).setCell ⟨(w.heap.size + 1), 0, none⟩ (.int .i64 id)) (w.heap.size + 1) 1 _ _ (.bool lo) ks0
  simp only [List.setIfInBounds_toArray, List.set_cons_zero, List.set_cons_succ] at ks1
  simp at kc1
  have kc2 := cell_of_row (((w3.setCell ⟨w.heap.size, 5, none⟩ (.slice ao len co)).setCell ⟨(w.heap.size + 1), 0, none⟩ (.int .i64 id)).setCell ⟨(w.heap.size + 1), 1, none⟩ (.bool lo)) (w.heap.size + 1) 2 _ _ _ ks1
  have kz2 := frozen_of_row (((w3.setCell ⟨w.heap.size, 5, none⟩ (.slice ao len co)).setCell ⟨(w.heap.size + 1), 0, none⟩ (.int .i64 id)).setCell ⟨(w.heap.size + 1), 1, none⟩ (.bool lo)) (w.heap.size + 1) 2 _ _ ks1
  have ks2 := heap_setCell_same (((w3.setCell ⟨w.heap.size, 5, none⟩ (.slice ao len co)).setCell ⟨(w.heap.size + 1), 0, none⟩ (.int .i64 id)).setCell ⟨(w.heap.size + 1), 1, none⟩ (.bool lo)) (w.heap.size + 1) 2 _ _ (.bool fa) ks1
  simp only [List.setIfInBounds_toArray, List.set_cons_zero, List.set_cons_succ] at ks2
  simp at kc2
  have kc3 := cell_of_row ((((w3.setCell ⟨w.heap.size, 5, none⟩ (.slice ao len co)).setCell ⟨(w.heap.size + 1), 0, none⟩ (.int .i64 id)).setCell ⟨(w.heap.size + 1), 1, none⟩ (.bool lo)).setCell ⟨(w.heap.size + 1), 2, none⟩ (.bool fa)) (w.heap.size + 1) 3 _ _ _ ks2
  have kz3 := frozen_of_row ((((w3.setCell ⟨w.heap.size, 5, none⟩ (.slice ao len co)).setCell ⟨(w.heap.size + 1), 0, none⟩ (.int .i64 id)).setCell ⟨(w.heap.size + 1), 1, none⟩ (.bool lo)).setCell ⟨(w.heap.size + 1), 2, none⟩ (.bool fa)) (w.heap.size + 1) 3 _ _ ks2
  have ks3 := heap_setCell_same ((((w3.setCell ⟨w.heap.size, 5, none⟩ (.slice ao len co)).setCell ⟨(w.heap.size + 1), 0, none⟩ (.int .i64 id)).setCell ⟨(w.heap.size + 1), 1, none⟩ (.bool lo)).setCell ⟨(w.heap.size + 1), 2, none⟩ (.bool fa)) (w.heap.size + 1) 3 _ _ (.bool re) ks2
  simp only [List.setIfInBounds_toArray, List.set_cons_zero, List.set_cons_succ] at ks3
  simp at kc3
  have kc4 := cell_of_row (((((w3.setCell ⟨w.heap.size, 5, none⟩ (.slice ao len co)).setCell ⟨(w.heap.size + 1), 0, none⟩ (.int .i64 id)).setCell ⟨(w.heap.size + 1), 1, none⟩ (.bool lo)).setCell ⟨(w.heap.size + 1), 2, none⟩ (.bool fa)).setCell ⟨(w.heap.size + 1), 3, none⟩ (.bool re)) (w.heap.size + 1) 4 _ _ _ ks3
  have kz4 := frozen_of_row (((((w3.setCell ⟨w.heap.size, 5, none⟩ (.slice ao len co)).setCell ⟨(w.heap.size + 1), 0, none⟩ (.int .i64 id)).setCell ⟨(w.heap.size + 1), 1, none⟩ (.bool lo)).setCell ⟨(w.heap.size + 1), 2, none⟩ (.bool fa)).setCell ⟨(w.heap.size + 1), 3, none⟩ (.bool re)) (w.heap.size + 1) 4 _ _ ks3
  have ks4 := heap_setCell_same (((((w3.setCell ⟨w.heap.size, 5, none⟩ (.slice ao len co)).setCell ⟨(w.heap.size + 1), 0, none⟩ (.int .i64 id)).setCell ⟨(w.heap.size + 1), 1, none⟩ (.bool lo)).setCell ⟨(w.heap.size + 1), 2, none⟩ (.bool fa)).setCell ⟨(w.heap.size + 1), 3, none⟩ (.bool re)) (w.heap.size + 1) 4 _ _ (.int .i64 sz) ks3
  simp only [List.setIfInBounds_toArray, List.set_cons_zero, List.set_cons_succ] at ks4
  simp at kc4
  have kc5 := cell_of_row ((((((w3.setCell ⟨w.heap.size, 5, none⟩ (.slice ao len co)).setCell ⟨(w.heap.size + 1), 0, none⟩ (.int .i64 id)).setCell ⟨(w.heap.size + 1), 1, none⟩ (.bool lo)).setCell ⟨(w.heap.size + 1), 2, none⟩ (.bool fa)).setCell ⟨(w.heap.size + 1), 3, none⟩ (.bool re)).setCell ⟨(w.heap.size + 1), 4, none⟩ (.int .i64 sz)) (w.heap.size + 1) 5 _ _ _ ks4
  have kz5 := frozen_of_row ((((((w3.setCell ⟨w.heap.size, 5, none⟩ (.slice ao len co)).setCell ⟨(w.heap.size + 1), 0, none⟩ (.int .i64 id)).setCell ⟨(w.heap.size + 1), 1, none⟩ (.bool lo)).setCell ⟨(w.heap.size + 1), 2, none⟩ (.bool fa)).setCell ⟨(w.heap.size + 1), 3, none⟩ (.bool re)).setCell ⟨(w.heap.size + 1), 4, none⟩ (.int .i64 sz)) (w.heap.size + 1) 5 _ _ ks4
  have ks5 := heap_setCell_same ((((((w3.setCell ⟨w.heap.size, 5, none⟩ (.slice ao len co)).setCell ⟨(w.heap.size + 1), 0, none⟩ (.int .i64 id)).setCell ⟨(w.heap.size + 1), 1, none⟩ (.bool lo)).setCell ⟨(w.heap.size + 1), 2, none⟩ (.bool fa)).setCell ⟨(w.heap.size + 1), 3, none⟩ (.bool re)).setCell ⟨(w.heap.size + 1), 4, none⟩ (.int .i64 sz)) (w.heap.size + 1) 5 _ _ (.slice ao len co) ks4
  simp only [List.setIfInBounds_toArray, List.set_cons_zero, List.set_cons_succ] at ks5
  simp at kc5
  exact ⟨ks5, isBytes_tchO hby hT1 (fun x hx => by have := hblk x hx; simp; omega), Tch.below hB hT1 (by simp) (Nat.le_refl _)⟩

set_option maxHeartbeats 8000000 in
set_option maxRecDepth 100000 in
theorem own_any (f : Fr) (a : Option Addr) (len cap : Nat) (w : World) (hby : IsBytes w a len cap f.dt) (hlen : len ≤ 140737488351232) :
    Calls Tryz.prog 5 #[frameV f.id f.lo f.fa f.re f.sz a len cap] w fun e w' => ∃ a' c', e = .returned (frameV f.id f.lo f.fa f.re f.sz a' len c') ∧ IsBytes w' a' len c' f.dt ∧ Below w.heap.size w w' := by
  obtain ⟨i0, hi, hz0, hz1, hz2⟩ := info_parts info_u8
  obtain ⟨id, lo, fa, re, sz, dt⟩ := f
  simp only at hby ⊢
  have hB1 := below_box w id lo fa re sz a len cap
  have hA1 := heap_alloc_new w (frameC id lo fa re sz a len cap)
  have hB2 : Below (w.alloc (frameC id lo fa re sz a len cap)).heap.size (w.alloc (frameC id lo fa re sz a len cap)) ((w.alloc (frameC id lo fa re sz a len cap)).alloc zC) := (Below.refl _ _).alloc (Nat.le_refl _) _
  have hA2 := heap_alloc_new (w.alloc (frameC id lo fa re sz a len cap)) zC
  have hsz1 : (w.alloc (frameC id lo fa re sz a len cap)).heap.size = w.heap.size + 1 := by simp
  have hsz2 : ((w.alloc (frameC id lo fa re sz a len cap)).alloc zC).heap.size = w.heap.size + 2 := by simp
  have hA1' := (hB2.block w.heap.size (by omega)).trans hA1
  rw [hsz1] at hA2
  have hB := bl2 hB1 hB2
  have hY := isBytes_below hby hB
  unfold frameC zC at hB hA1' hA2 hY hsz2
  unfold frameV
  have HY := Hid.mk hY
  have HB := Hid.mk hB
  have HA1 := Hid.mk hA1'
  have HA2 := Hid.mk hA2
  clear hB1 hA1 hB2 hA2 hsz1 hA1' hB hY hby
  go_enter Tryz.func5, Tryz.ntmps5
  cases a with
  | none =>
    have hl0 := HY.out.2.2.2.1 rfl
    subst hl0
    go_wp2_with fail
    have hd0 : dt = [] := List.eq_nil_of_length_eq_zero HY.out.1
    subst hd0
    have hrow := heap_alloc_new (w.alloc (.cells #[.int .i64 id, .bool lo, .bool fa, .bool re, .int .i64 sz, .slice none 0 0] 24)) (.cells #[.int .i64 id, .bool lo, .bool fa, .bool re, .int .i64 sz, .slice none 0 0] 24)
    have hs1 : (w.alloc (.cells #[.int .i64 id, .bool lo, .bool fa, .bool re, .int .i64 sz, .slice none 0 0] 24)).heap.size = w.heap.size + 1 := by simp
    rw [hs1] at hrow
    have hBe : Below w.heap.size w ((w.alloc (.cells #[.int .i64 id, .bool lo, .bool fa, .bool re, .int .i64 sz, .slice none 0 0] 24)).alloc (.cells #[.int .i64 id, .bool lo, .bool fa, .bool re, .int .i64 sz, .slice none 0 0] 24)) := bl2 ((Below.refl _ _).alloc (Nat.le_refl _) _) ((Below.refl _ _).alloc (Nat.le_refl _) _)
    refine bodyPost_ret (results_cell_row rfl _ _ (w.heap.size + 1) _ _ _ _ rfl hrow Tryz.underlying24 rfl frame_iO) rfl ?_
    exact ⟨none, 0, rfl, ⟨rfl, Nat.le_refl _, Nat.zero_le _, fun _ => rfl, fun x hx => by cases hx⟩, hBe⟩
  | some x =>
    have hcl : (cellsOf dt).length = len * 1 := by rw [cellsOf_length, HY.out.1, Nat.mul_one]
    have hce := HY.out.2.2.2.2 x rfl
    have hdl := HY.out.1
    go_wp2_with (at_builtin; refine wpList_append_own _ rfl (.const (.slice none 0 0)) (.tmp 4) 22 rfl (w.heap.size + 2) 5 i0 (.int .u8 0) 1 1 Tryz.underlying22 hi hz0 hz1 hz2 rfl (by decide) (.slice none 0 0) 0 [] rfl (World.ownsRow_nil _ _ _ _) x len cap (cellsOf dt) rfl hcl (by intro q u hq; have hq1 : q < dt.length := (by rcases Nat.lt_or_ge q dt.length with hh | hh; exact hh; rw [List.getElem?_eq_none (by rw [cellsOf_length]; exact hh)] at hq; cases hq); rw [hce q (by omega)]; simp [cellsOf, hq1] at hq; rw [← hq]; simp [List.getD, hq1]) (by intro u hu; simp [cellsOf] at hu; obtain ⟨c, -, rfl⟩ := hu; rfl) (by unfold maxLen; omega) (by omega) (by omega) ?_; intro v1 w3 hown1 hgrow1 _; have hown2 : w3.ownsRow (w.heap.size + 2) 5 1 v1 len (cellsOf dt) := (by simpa using hown1); have hb3 := Below.grown (Below.refl (w.heap.size + 2) _) hgrow1 (by simp) (fun q hq => by cases hq); obtain ⟨ao, co, rfl, hby3, hblk⟩ := isBytes_ownO hown2; have r1 := (hb3.block w.heap.size (by omega)).trans HA1.out; have r2 := (hb3.block (w.heap.size + 1) (by omega)).trans HA2.out; have hBw := HB.out.trans (hb3.mono (Nat.le_add_right _ _)); have c0 := cell_of_row w3 w.heap.size 0 _ _ _ r1; simp at c0; have c1 := cell_of_row w3 w.heap.size 1 _ _ _ r1; simp at c1; have c2 := cell_of_row w3 w.heap.size 2 _ _ _ r1; simp at c2; have c3 := cell_of_row w3 w.heap.size 3 _ _ _ r1; simp at c3; have c4 := cell_of_row w3 w.heap.size 4 _ _ _ r1; simp at c4; have c5 := cell_of_row w3 w.heap.size 5 _ _ _ r1; simp at c5; have z5 := frozen_of_row w3 w.heap.size 5 _ _ r1; have s5 := cell_of_row _ w.heap.size 5 _ _ _ (heap_setCell_same w3 w.heap.size 5 _ _ (.slice ao len co) r1); simp at s5; have b0 := cell_of_row w3 (w.heap.size + 1) 0 _ _ _ r2; simp at b0; have f0 := frozen_of_row w3 (w.heap.size + 1) 0 _ _ r2; have b1 := cell_of_row w3 (w.heap.size + 1) 1 _ _ _ r2; simp at b1; have f1 := frozen_of_row w3 (w.heap.size + 1) 1 _ _ r2; have b2 := cell_of_row w3 (w.heap.size + 1) 2 _ _ _ r2; simp at b2; have f2 := frozen_of_row w3 (w.heap.size + 1) 2 _ _ r2; have b3 := cell_of_row w3 (w.heap.size + 1) 3 _ _ _ r2; simp at b3; have f3 := frozen_of_row w3 (w.heap.size + 1) 3 _ _ r2; have b4 := cell_of_row w3 (w.heap.size + 1) 4 _ _ _ r2; simp at b4; have f4 := frozen_of_row w3 (w.heap.size + 1) 4 _ _ r2; have b5 := cell_of_row w3 (w.heap.size + 1) 5 _ _ _ r2; simp at b5; have f5 := frozen_of_row w3 (w.heap.size + 1) 5 _ _ r2; have HE := Hid.mk (own_end id lo fa re sz (some x) len cap ao co dt w w3 hBw r1 r2 hby3 hblk); clear hown1 hown2 hb3 hby3 hblk r1 r2 hBw hgrow1 hce hcl hdl)
    obtain ⟨e1, e2, e3⟩ := HE.out
    refine bodyPost_ret (results_cell_row rfl _ _ (w.heap.size + 1) _ _ _ _ rfl e1 Tryz.underlying24 rfl frame_iO) rfl ?_
    exact ⟨ao, co, rfl, e2, e3⟩
end Bw
end Go.Proofs.YtjeogdfejnoanacGreatDoor

/- The table of the numbers of bytes off the row's own condition. -/
namespace Go.Proofs.YtjeogdfejnoanacGreatDoor
open Go.ChangeShapes Go.WideShapes Go.ChangeAt Go.RowKit
namespace Bw
theorem fsz_eq : Rows.laid_omnibus_frame_sizes (H := Unit) = Lib.tabData .i64 sizesI := by kernel_rfl
theorem fsz_t : Tryz.prog.underlying 80 = some (.array 16 3) := by kernel_rfl
theorem fsz_c : Tryz.prog.cellsOf 80 = 16 := by kernel_rfl
theorem fsz_c1 : Tryz.prog.cellsOf 3 = 1 := by kernel_rfl
theorem fsz_g : Tryz.prog.globalNamed "omnibus/frame.sizes" = some 1 := by kernel_rfl
theorem fsz_y : (Tryz.prog.globals[1]?).map (·.type) = some 80 := by kernel_rfl
theorem sizes_of {W : World} {laid : List (String × DataW Unit)} (hL : laidMet Tryz.prog laid W)
    (h1 : ("omnibus/frame.sizes", Rows.laid_omnibus_frame_sizes) ∈ laid) : SizesAt W := by
  obtain ⟨g, t, cs, fuel, p, hg, hty, hvar, hd⟩ := Lib.laidMet.reads hL h1
  obtain rfl := Option.some.inj (fsz_g.symm.trans hg)
  obtain rfl := Option.some.inj (fsz_y.symm.trans hty)
  rw [fsz_eq] at hd
  have hcs := Lib.cells_of_tab fsz_t Tryz.underlying3 fsz_c1 fsz_c hd
  intro i hi
  have := World.var?_cell hg hvar i
  rw [this, ← Array.getElem?_toList, hcs]
  rw [List.getElem?_map, List.getElem?_eq_getElem hi]
  simp [List.getD, hi]
end Bw
end Go.Proofs.YtjeogdfejnoanacGreatDoor

/- The table of kinds off the row's own condition: its cells hold the sizes, polynomials, starts and ends. -/
namespace Go.Proofs.YtjeogdfejnoanacGreatDoor
open Go.ChangeShapes Go.WideShapes Go.ChangeAt Go.RowKit
namespace Bw
open Cm
def ruleZ (k : Nat) : List Int := [(kS k : Int), (kP k : Int), (kF k : Int), (kE k : Int)]
def rulesD : List (DataW Unit) := [0, 1, 2, 3, 4].map fun k => .agg ((ruleZ k).map fun z => .lit (.int .i64 z))
theorem five_at (k : Nat) (hk : k ≤ 4) : [0, 1, 2, 3, 4][k]? = some k := by
  match k, hk with
  | 0, _ => rfl
  | 1, _ => rfl
  | 2, _ => rfl
  | 3, _ => rfl
  | 4, _ => rfl
theorem rulesD_at (k : Nat) (hk : k ≤ 4) : rulesD[k]? = some (.agg ((ruleZ k).map fun z => .lit (.int .i64 z))) := by
  rw [rulesD, List.getElem?_map, five_at k hk]; rfl
theorem rules_eq : Rows.laid_omnibus_check_rules (H := Unit) = .agg rulesD := by kernel_rfl
theorem rules_t : Tryz.prog.underlying 73 = some (.array 5 72) := by kernel_rfl
theorem rule_c : Tryz.prog.cellsOf 72 = 4 := by kernel_rfl
theorem int_c : Tryz.prog.cellsOf 3 = 1 := by kernel_rfl
theorem rules_g : Tryz.prog.globalNamed "omnibus/check.rules" = some 0 := by kernel_rfl
theorem rules_y : (Tryz.prog.globals[0]?).map (·.type) = some 73 := by kernel_rfl
theorem rules_of {W : World} {laid : List (String × DataW Unit)} (hL : laidMet Tryz.prog laid W)
    (h1 : ("omnibus/check.rules", Rows.laid_omnibus_check_rules) ∈ laid) : RulesAt W := by
  obtain ⟨g, t, cs, fuel, p, hg, hty, hvar, hd⟩ := Lib.laidMet.reads hL h1
  obtain rfl := Option.some.inj (rules_g.symm.trans hg)
  obtain rfl := Option.some.inj (rules_y.symm.trans hty)
  rw [rules_eq] at hd
  intro k hk
  obtain ⟨fuel', d, q, hdk, htr⟩ := Lib.array_elem rules_t hd k (by omega)
  have hdd : d = .agg ((ruleZ k).map fun z => .lit (.int .i64 z)) := by
    have := rulesD_at k hk
    rw [hdk] at this
    exact Option.some.inj this
  subst hdd
  have hz := Lib.ints_of_struct Tryz.underlying72 (by
    intro i f h
    match i, h with
    | 0, h => cases h; exact ⟨Tryz.underlying3, rfl, int_c⟩
    | 1, h => cases h; exact ⟨Tryz.underlying3, rfl, int_c⟩
    | 2, h => cases h; exact ⟨Tryz.underlying3, rfl, int_c⟩
    | 3, h => cases h; exact ⟨Tryz.underlying3, rfl, int_c⟩
    | i + 4, h => simp at h) rule_c htr
  rw [rule_c] at hz
  have hc : ∀ j, j < 4 → cs[k * 4 + j]? = ((ruleZ k).map fun z => Value.int .i64 z)[j]? := by
    intro j hj
    rw [← hz, List.getElem?_take_of_lt hj, List.getElem?_drop, Array.getElem?_toList]
  have hv := fun j => World.var?_cell hg hvar j
  refine ⟨?_, ?_, ?_, ?_⟩
  · rw [hv, ← Nat.add_zero (k * 4), hc 0 (by omega)]; rfl
  · rw [hv, hc 1 (by omega)]; rfl
  · rw [hv, hc 2 (by omega)]; rfl
  · rw [hv, hc 3 (by omega)]; rfl
end Bw
end Go.Proofs.YtjeogdfejnoanacGreatDoor

/- The one cell of the table of math/bits that is read, off the row's own condition. -/
namespace Go.Proofs.YtjeogdfejnoanacGreatDoor
open Go.ChangeShapes Go.WideShapes Go.ChangeAt Go.RowKit
namespace Bw
def bruijnZ : List Int := [0, 1, 56, 2, 57, 49, 28, 3, 61, 58, 42, 50, 38, 29, 17, 4, 62, 47, 59, 36, 45, 43, 51, 22, 53, 39, 33, 30, 24, 18, 12, 5, 63, 55, 48, 27, 60, 41, 37, 16, 46, 35, 44, 21, 52, 32, 23, 11, 54, 26, 40, 15, 34, 20, 31, 10, 25, 14, 19, 9, 13, 8, 7, 6]
theorem bruijn_eq : Rows.laid_math_bits_deBruijn64tab (H := Unit) = Lib.tabData .u8 bruijnZ := by kernel_rfl
theorem bruijn_t : Tryz.prog.underlying 156 = some (.array 64 5) := by kernel_rfl
theorem bruijn_c : Tryz.prog.cellsOf 156 = 64 := by kernel_rfl
theorem bruijn_c1 : Tryz.prog.cellsOf 5 = 1 := by kernel_rfl
theorem bruijn_g : Tryz.prog.globalNamed "math/bits.deBruijn64tab" = some 5 := by kernel_rfl
theorem bruijn_y : (Tryz.prog.globals[5]?).map (·.type) = some 156 := by kernel_rfl
theorem bruijn_of {W : World} {laid : List (String × DataW Unit)} (hL : laidMet Tryz.prog laid W)
    (h1 : ("math/bits.deBruijn64tab", Rows.laid_math_bits_deBruijn64tab) ∈ laid) : W.cell? ⟨5, 1, none⟩ = some (.int .u8 1) := by
  obtain ⟨g, t, cs, fuel, p, hg, hty, hvar, hd⟩ := Lib.laidMet.reads hL h1
  obtain rfl := Option.some.inj (bruijn_g.symm.trans hg)
  obtain rfl := Option.some.inj (bruijn_y.symm.trans hty)
  rw [bruijn_eq] at hd
  have hcs := Lib.cells_of_tab bruijn_t Tryz.underlying5 bruijn_c1 bruijn_c hd
  have := World.var?_cell hg hvar 1
  rw [this, ← Array.getElem?_toList, hcs]
  rfl
end Bw
end Go.Proofs.YtjeogdfejnoanacGreatDoor

/- The law FrameBits: any frame has the name and the bits that the document says, errors too. -/
namespace Go.Proofs.YtjeogdfejnoanacGreatDoor
open Go.ChangeShapes Go.WideShapes Go.ChangeAt Go.RowKit
namespace Bw
open Bm Cm

theorem str_same {A B : ByteArray} {x : List UInt8} (hA : A.data.toList = x) (hB : B.data.toList = x) : (A.toList == B.toList) = true := by
  rw [ByteArray.toList_eq, ByteArray.toList_eq, hA, hB]; simp
set_option maxHeartbeats 16000000 in
theorem frameBits_bad (f : Fr) (a : Option Addr) (len cap : Nat) (w : World) (hS : SizesAt w) (hR : RulesAt w) (hby : IsBytes w a len cap f.dt) (hlen : len ≤ 140737488351232) (hE : frE f ≠ 0) :
    Calls Tryz.prog 3 #[frameV f.id f.lo f.fa f.re f.sz a len cap] w fun e w' => e = .returned (.bool true) ∧ Below w.heap.size w w' := by
  have hmx : len ≤ maxLen := by unfold maxLen; omega
  have hdl : f.dt.length = len := hby.1
  have hB := below_box w f.id f.lo f.fa f.re f.sz a len cap
  have hK := FrAt.box w f.id f.lo f.fa f.re f.sz a len cap
  have hY := isBytes_below hby hB
  have a1 := own_any f a len cap _ hY hlen
  have a2 := fun (ao : Option Addr) (co : Nat) W h1 => frName_any f ao len co W h1 hmx hdl
  have a3 := fun (ao : Option Addr) (co : Nat) W h1 h2 h3 => frBits_any f ao len co W h1 h2 h3
  have a4 := fun W => checkFrame_any f.id f.lo f.fa f.re f.sz a len cap W (by omega)
  have a5 := fun W h1 h2 => framed_any W h1 h2
  have a6 := fun W h1 => frCheck_any f.id f.lo f.fa f.re f.sz a len cap W h1 hmx
  have hEn : frEn f.id f.lo f.fa f.re f.sz len = frE f := by unfold frE; rw [hdl]
  rw [hEn] at a4 a6
  have a7 := fun (ao : Option Addr) (co : Nat) W h1 h2 => sameFrame_true f ao a len co len cap W h1 h2
  have a8 := fun (ao : Option Addr) (co : Nat) W h1 h2 => same_any f f a ao len cap len co W h1 h2
  have hsm : decide (f = f) = true := by simp
  rw [hsm] at a8
  have hna : nameA f = .tuple #[.string ⟨#[]⟩, .int .i64 (frE f)] := by unfold nameA; rw [if_neg hE]
  have hba : bitsA f = .tuple #[.string ⟨#[]⟩, .int .i64 (frE f)] := by unfold bitsA; rw [if_neg hE]
  rw [hna] at a2
  rw [hba] at a3
  have hne : (frE f != 0) = true := by simpa using hE
  have HA1 := Hid.mk a1
  have HA2 := Hid.mk a2
  have HA3 := Hid.mk a3
  have HA4 := Hid.mk a4
  have HA5 := Hid.mk a5
  have HA6 := Hid.mk a6
  have HA7 := Hid.mk a7
  have HA8 := Hid.mk a8
  have HB := Hid.mk hB
  have HK := Hid.mk hK
  have HY := Hid.mk hY
  have HS := Hid.mk hS
  have HR := Hid.mk hR
  unfold frameC at HA1 HB HK HY
  unfold frameV at HA1 HA2 HA3 HA4 HA6 HA7 HA8 ⊢
  clear a1 a2 a3 a4 a5 a6 a7 a8 hB hK hY hS hR hby hmx hdl hEn hsm hlen
  clear hE hna hba
  generalize frE f = ce at *
  go_enter Tryz.func3, Tryz.ntmps3
  go_wp2_with fail
  refine HA1.out.mono ?_
  rintro e w1 ⟨ao, co, rfl, hbo, hb1⟩
  have hb2 : Below w1.heap.size w1 (w1.alloc (.cells #[.int .i64 f.id, .bool f.lo, .bool f.fa, .bool f.re, .int .i64 f.sz, .slice ao len co] 24)) := (Below.refl _ _).alloc (Nat.le_refl _) _
  have hb12 := bl2 hb1 hb2
  have HB2 := Hid.mk (bl2 HB.out hb12)
  have HKf2 := Hid.mk (HK.out.kept hb12)
  have HYf2 := Hid.mk (isBytes_below HY.out hb12)
  have HKo2 := Hid.mk (FrAt.box w1 f.id f.lo f.fa f.re f.sz ao len co)
  have HYo2 := Hid.mk (isBytes_below hbo hb2)
  unfold frameC at HKo2
  clear hb1 hb2 hb12 hbo HB HK HY HA1
  go_wp2_with fail
  refine (HA2.out _ _ _ (HS.out.kept HB2.out)).mono ?_
  rintro e w3 ⟨rfl, hb3⟩
  have HB3 := Hid.mk (bl2 HB2.out hb3)
  have HKf3 := Hid.mk (HKf2.out.kept hb3)
  have HYf3 := Hid.mk (isBytes_below HYf2.out hb3)
  have HKo3 := Hid.mk (HKo2.out.kept hb3)
  have HYo3 := Hid.mk (isBytes_below HYo2.out hb3)
  obtain ⟨k0, k1, k2, k3, k4, k5⟩ := HKo3.out
  clear hb3 HB2 HKf2 HYf2 HKo2 HYo2 HA2
  go_wp2_with fail
  refine (HA3.out _ _ _ (HS.out.kept HB3.out) (HR.out.kept HB3.out) HYo3.out).mono ?_
  rintro e w4 ⟨rfl, hb4⟩
  have HB4 := Hid.mk (bl2 HB3.out hb4)
  have HKf4 := Hid.mk (HKf3.out.kept hb4)
  have HYf4 := Hid.mk (isBytes_below HYf3.out hb4)
  have HKo4 := Hid.mk (HKo3.out.kept hb4)
  have HYo4 := Hid.mk (isBytes_below HYo3.out hb4)
  obtain ⟨j0, j1, j2, j3, j4, j5⟩ := HKf4.out
  clear hb4 HB3 HKf3 HYf3 HKo3 HYo3 HA3 k0 k1 k2 k3 k4 k5
  go_wp2_with fail
  refine (HA4.out _).mono ?_
  rintro e w5 ⟨rfl, hb5⟩
  have HB5 := Hid.mk (bl2 HB4.out hb5)
  have HKf5 := Hid.mk (HKf4.out.kept hb5)
  have HYf5 := Hid.mk (isBytes_below HYf4.out hb5)
  have HKo5 := Hid.mk (HKo4.out.kept hb5)
  have HYo5 := Hid.mk (isBytes_below HYo4.out hb5)
  clear hb5 HB4 HKf4 HYf4 HKo4 HYo4 HA4 j0 j1 j2 j3 j4 j5
  go_wp2_with fail
  refine (HA5.out _ (HS.out.kept HB5.out) (HR.out.kept HB5.out)).mono ?_
  rintro e w6 ⟨rfl, hb6⟩
  have HB6 := Hid.mk (bl2 HB5.out hb6)
  have HKf6 := Hid.mk (HKf5.out.kept hb6)
  have HYf6 := Hid.mk (isBytes_below HYf5.out hb6)
  have HKo6 := Hid.mk (HKo5.out.kept hb6)
  have HYo6 := Hid.mk (isBytes_below HYo5.out hb6)
  obtain ⟨j0, j1, j2, j3, j4, j5⟩ := HKf6.out
  clear hb6 HB5 HKf5 HYf5 HKo5 HYo5 HA5
  go_wp2_with fail
  refine (HA6.out _ (HS.out.kept HB6.out)).mono ?_
  rintro e w7 ⟨rfl, hb7⟩
  have HB7 := Hid.mk (bl2 HB6.out hb7)
  have HKf7 := Hid.mk (HKf6.out.kept hb7)
  have HYf7 := Hid.mk (isBytes_below HYf6.out hb7)
  have HKo7 := Hid.mk (HKo6.out.kept hb7)
  have HYo7 := Hid.mk (isBytes_below HYo6.out hb7)
  clear hb7 HB6 HKf6 HYf6 HKo6 HYo6 HA6 j0 j1 j2 j3 j4 j5
  obtain ⟨j0, j1, j2, j3, j4, j5⟩ := HKf7.out
  obtain ⟨k0, k1, k2, k3, k4, k5⟩ := HKo7.out
  go_wp2_with fail
  refine (HA7.out _ _ _ HYo7.out HYf7.out).mono ?_
  rintro e w71 ⟨rfl, hb71⟩
  have HB71 := Hid.mk (bl2 HB7.out hb71)
  have HKf71 := Hid.mk (HKf7.out.kept hb71)
  have HYf71 := Hid.mk (isBytes_below HYf7.out hb71)
  have HKo71 := Hid.mk (HKo7.out.kept hb71)
  have HYo71 := Hid.mk (isBytes_below HYo7.out hb71)
  clear hb71 HB7 HKf7 HYf7 HKo7 HYo7 HA7 j0 j1 j2 j3 j4 j5 k0 k1 k2 k3 k4 k5
  obtain ⟨j0, j1, j2, j3, j4, j5⟩ := HKf71.out
  obtain ⟨k0, k1, k2, k3, k4, k5⟩ := HKo71.out
  go_wp2_with fail
  refine (HA8.out _ _ _ HYf71.out HYo71.out).mono ?_
  rintro e w8 ⟨rfl, hb8⟩
  have HB8 := Hid.mk (bl2 HB71.out hb8)
  have HKf8 := Hid.mk (HKf71.out.kept hb8)
  have HYf8 := Hid.mk (isBytes_below HYf71.out hb8)
  clear hb8 HB71 HKf71 HYf71 HKo71 HYo71 HA8 j0 j1 j2 j3 j4 j5 k0 k1 k2 k3 k4 k5
  go_wp2_with fail
  go_ret
  exact ⟨rfl, HB8.out⟩
set_option maxHeartbeats 16000000 in
theorem frameBits_ok (f : Fr) (a : Option Addr) (len cap : Nat) (w : World) (hS : SizesAt w) (hR : RulesAt w) (hD : w.cell? ⟨5, 1, none⟩ = some (.int .u8 1)) (hby : IsBytes w a len cap f.dt) (hlen : len ≤ 140737488351232) (hE : frE f = 0) :
    Calls Tryz.prog 3 #[frameV f.id f.lo f.fa f.re f.sz a len cap] w fun e w' => e = .returned (.bool true) ∧ Below w.heap.size w w' := by
  have hmx : len ≤ maxLen := by unfold maxLen; omega
  have hdl : f.dt.length = len := hby.1
  have hB := below_box w f.id f.lo f.fa f.re f.sz a len cap
  have hK := FrAt.box w f.id f.lo f.fa f.re f.sz a len cap
  have hY := isBytes_below hby hB
  have a1 := own_any f a len cap _ hY hlen
  have a2 := fun (ao : Option Addr) (co : Nat) W h1 => frName_any f ao len co W h1 hmx hdl
  have a3 := fun (ao : Option Addr) (co : Nat) W h1 h2 h3 => frBits_any f ao len co W h1 h2 h3
  have a4 := fun W => checkFrame_any f.id f.lo f.fa f.re f.sz a len cap W (by omega)
  have a5 := fun W h1 h2 => framed_any W h1 h2
  have a6 := fun W h1 => frCheck_any f.id f.lo f.fa f.re f.sz a len cap W h1 hmx
  have hEn : frEn f.id f.lo f.fa f.re f.sz len = frE f := by unfold frE; rw [hdl]
  rw [hEn] at a4 a6
  have a7 := fun (ao : Option Addr) (co : Nat) W h1 h2 => sameFrame_true f ao a len co len cap W h1 h2
  have a8 := fun (ao : Option Addr) (co : Nat) W h1 h2 => same_any f f a ao len cap len co W h1 h2
  have hsm : decide (f = f) = true := by simp
  rw [hsm] at a8
  have hna : nameA f = .tuple #[.string ⟨(nameL f).toArray⟩, .int .i64 0] := by unfold nameA; rw [if_pos hE]
  have hba : bitsA f = .tuple #[.string ⟨(bitsL f).toArray⟩, .int .i64 0] := by unfold bitsA; rw [if_pos hE]
  rw [hna] at a2
  rw [hba] at a3
  rw [hE] at a4 a6
  obtain ⟨q1, q2, -⟩ := frE_ok hE
  have a9 := fun W hW => nameOf_any f a len cap W hW q1 q2
  have a10 := fun W hW hB => bitsOf_any f a len cap W hW hE hB
  generalize ByteArray.mk (nameL f).toArray = NM at *
  generalize ByteArray.mk (bitsL f).toArray = BT at *
  have HA9 := Hid.mk a9
  have HA10 := Hid.mk a10
  have HD := Hid.mk hD
  unfold frameV at HA9 HA10
  have e1 : (NM.toList == NM.toList) = true := by simp
  have e2 : (BT.toList == BT.toList) = true := by simp
  have HA1 := Hid.mk a1
  have HA2 := Hid.mk a2
  have HA3 := Hid.mk a3
  have HA4 := Hid.mk a4
  have HA5 := Hid.mk a5
  have HA6 := Hid.mk a6
  have HA7 := Hid.mk a7
  have HA8 := Hid.mk a8
  have HB := Hid.mk hB
  have HK := Hid.mk hK
  have HY := Hid.mk hY
  have HS := Hid.mk hS
  have HR := Hid.mk hR
  unfold frameC at HA1 HB HK HY
  unfold frameV at HA1 HA2 HA3 HA4 HA6 HA7 HA8 ⊢
  clear a1 a2 a3 a4 a5 a6 a7 a8 hB hK hY hS hR hby hmx hdl hEn hsm hlen
  clear hE hna hba a9 a10 hD q1 q2
  go_enter Tryz.func3, Tryz.ntmps3
  go_wp2_with fail
  refine HA1.out.mono ?_
  rintro e w1 ⟨ao, co, rfl, hbo, hb1⟩
  have hb2 : Below w1.heap.size w1 (w1.alloc (.cells #[.int .i64 f.id, .bool f.lo, .bool f.fa, .bool f.re, .int .i64 f.sz, .slice ao len co] 24)) := (Below.refl _ _).alloc (Nat.le_refl _) _
  have hb12 := bl2 hb1 hb2
  have HB2 := Hid.mk (bl2 HB.out hb12)
  have HKf2 := Hid.mk (HK.out.kept hb12)
  have HYf2 := Hid.mk (isBytes_below HY.out hb12)
  have HKo2 := Hid.mk (FrAt.box w1 f.id f.lo f.fa f.re f.sz ao len co)
  have HYo2 := Hid.mk (isBytes_below hbo hb2)
  unfold frameC at HKo2
  clear hb1 hb2 hb12 hbo HB HK HY HA1
  go_wp2_with fail
  refine (HA2.out _ _ _ (HS.out.kept HB2.out)).mono ?_
  rintro e w3 ⟨rfl, hb3⟩
  have HB3 := Hid.mk (bl2 HB2.out hb3)
  have HKf3 := Hid.mk (HKf2.out.kept hb3)
  have HYf3 := Hid.mk (isBytes_below HYf2.out hb3)
  have HKo3 := Hid.mk (HKo2.out.kept hb3)
  have HYo3 := Hid.mk (isBytes_below HYo2.out hb3)
  obtain ⟨k0, k1, k2, k3, k4, k5⟩ := HKo3.out
  clear hb3 HB2 HKf2 HYf2 HKo2 HYo2 HA2
  go_wp2_with fail
  refine (HA3.out _ _ _ (HS.out.kept HB3.out) (HR.out.kept HB3.out) HYo3.out).mono ?_
  rintro e w4 ⟨rfl, hb4⟩
  have HB4 := Hid.mk (bl2 HB3.out hb4)
  have HKf4 := Hid.mk (HKf3.out.kept hb4)
  have HYf4 := Hid.mk (isBytes_below HYf3.out hb4)
  have HKo4 := Hid.mk (HKo3.out.kept hb4)
  have HYo4 := Hid.mk (isBytes_below HYo3.out hb4)
  obtain ⟨j0, j1, j2, j3, j4, j5⟩ := HKf4.out
  clear hb4 HB3 HKf3 HYf3 HKo3 HYo3 HA3 k0 k1 k2 k3 k4 k5
  go_wp2_with fail
  refine (HA4.out _).mono ?_
  rintro e w5 ⟨rfl, hb5⟩
  have HB5 := Hid.mk (bl2 HB4.out hb5)
  have HKf5 := Hid.mk (HKf4.out.kept hb5)
  have HYf5 := Hid.mk (isBytes_below HYf4.out hb5)
  have HKo5 := Hid.mk (HKo4.out.kept hb5)
  have HYo5 := Hid.mk (isBytes_below HYo4.out hb5)
  clear hb5 HB4 HKf4 HYf4 HKo4 HYo4 HA4 j0 j1 j2 j3 j4 j5
  go_wp2_with fail
  refine (HA5.out _ (HS.out.kept HB5.out) (HR.out.kept HB5.out)).mono ?_
  rintro e w6 ⟨rfl, hb6⟩
  have HB6 := Hid.mk (bl2 HB5.out hb6)
  have HKf6 := Hid.mk (HKf5.out.kept hb6)
  have HYf6 := Hid.mk (isBytes_below HYf5.out hb6)
  have HKo6 := Hid.mk (HKo5.out.kept hb6)
  have HYo6 := Hid.mk (isBytes_below HYo5.out hb6)
  obtain ⟨j0, j1, j2, j3, j4, j5⟩ := HKf6.out
  clear hb6 HB5 HKf5 HYf5 HKo5 HYo5 HA5
  go_wp2_with fail
  refine (HA6.out _ (HS.out.kept HB6.out)).mono ?_
  rintro e w7 ⟨rfl, hb7⟩
  have HB7 := Hid.mk (bl2 HB6.out hb7)
  have HKf7 := Hid.mk (HKf6.out.kept hb7)
  have HYf7 := Hid.mk (isBytes_below HYf6.out hb7)
  have HKo7 := Hid.mk (HKo6.out.kept hb7)
  have HYo7 := Hid.mk (isBytes_below HYo6.out hb7)
  clear hb7 HB6 HKf6 HYf6 HKo6 HYo6 HA6 j0 j1 j2 j3 j4 j5
  obtain ⟨j0, j1, j2, j3, j4, j5⟩ := HKf7.out
  obtain ⟨k0, k1, k2, k3, k4, k5⟩ := HKo7.out
  go_wp2_with fail
  refine (HA7.out _ _ _ HYo7.out HYf7.out).mono ?_
  rintro e w71 ⟨rfl, hb71⟩
  have HB71 := Hid.mk (bl2 HB7.out hb71)
  have HKf71 := Hid.mk (HKf7.out.kept hb71)
  have HYf71 := Hid.mk (isBytes_below HYf7.out hb71)
  have HKo71 := Hid.mk (HKo7.out.kept hb71)
  have HYo71 := Hid.mk (isBytes_below HYo7.out hb71)
  clear hb71 HB7 HKf7 HYf7 HKo7 HYo7 HA7 j0 j1 j2 j3 j4 j5 k0 k1 k2 k3 k4 k5
  obtain ⟨j0, j1, j2, j3, j4, j5⟩ := HKf71.out
  obtain ⟨k0, k1, k2, k3, k4, k5⟩ := HKo71.out
  go_wp2_with fail
  refine (HA8.out _ _ _ HYf71.out HYo71.out).mono ?_
  rintro e w8 ⟨rfl, hb8⟩
  have HB8 := Hid.mk (bl2 HB71.out hb8)
  have HKf8 := Hid.mk (HKf71.out.kept hb8)
  have HYf8 := Hid.mk (isBytes_below HYf71.out hb8)
  clear hb8 HB71 HKf71 HYf71 HKo71 HYo71 HA8 j0 j1 j2 j3 j4 j5 k0 k1 k2 k3 k4 k5
  obtain ⟨n0, n1, n2, n3, n4, n5⟩ := HKf8.out
  go_wp2_with fail
  refine (HA9.out _ (cell_kept HB8.out HD.out)).mono ?_
  rintro e w9 ⟨rfl, hb9⟩
  have HB9 := Hid.mk (bl2 HB8.out hb9)
  obtain ⟨p0, p1, p2, p3, p4, p5⟩ := HKf8.out.kept hb9
  have HYf9 := Hid.mk (isBytes_below HYf8.out hb9)
  clear hb9 HB8 HKf8 HYf8 n0 n1 n2 n3 n4 n5 HA9
  go_wp2_with fail
  refine (HA10.out _ (cell_kept HB9.out HD.out) HYf9.out).mono ?_
  rintro e w10 ⟨rfl, hb10⟩
  have HB10 := Hid.mk (bl2 HB9.out hb10)
  clear hb10 HB9 HYf9 p0 p1 p2 p3 p4 p5 HA10
  go_wp2_with fail
  go_ret
  exact ⟨rfl, HB10.out⟩
end Bw
namespace frameBits
open Bw
theorem walk (id : Int) (lo fa re : Bool) (sz : Int) (a : Option Addr) (len cap : Nat) (zs : List Int) (w : World) (_ : (Lit.int .i64 id).wf = true) (_ : (Lit.int .i64 sz).wf = true) (hz : IsRow .u8 w a len cap zs) (hlen : len ≤ 140737488351232) (hL : laidMet Tryz.prog Rows.frameBitsRow.laid w) :
    Calls Tryz.prog 3 #[frameV id lo fa re sz a len cap] w fun e w' => e = .returned (.bool true) ∧ Below w.heap.size w w' := by
  have hS := sizes_of hL (by simp [Rows.frameBitsRow])
  have hR := rules_of hL (by simp [Rows.frameBitsRow])
  have hD := bruijn_of hL (by simp [Rows.frameBitsRow])
  obtain ⟨l, hl⟩ := isBytes_of_row hz
  by_cases hE : frE ⟨id, lo, fa, re, sz, l⟩ = 0
  · exact frameBits_ok ⟨id, lo, fa, re, sz, l⟩ a len cap w hS hR hD hl hlen hE
  · exact frameBits_bad ⟨id, lo, fa, re, sz, l⟩ a len cap w hS hR hl hlen hE
end frameBits
end Go.Proofs.YtjeogdfejnoanacGreatDoor

/- How many bytes a frame that came in can have: the row's own reach. -/
namespace Go.Proofs.YtjeogdfejnoanacGreatDoor
open Go.ChangeShapes Go.WideShapes Go.ChangeAt Go.RowKit
namespace Bw
theorem bytes_b1 : Tryz.prog.bytesOf 5 = 1 := by kernel_rfl
set_option maxRecDepth 100000 in
theorem frame_len {H : Type} {enc : TypeId × Value → H} {W : World} {id : Int} {lo fa re : Bool} {sz : Int} {a : Option Addr} {len cap : Nat} {fuel : Nat} {x : DataW H × List MemPlace}
    (hf : DataW.trod enc Tryz.prog W 0 (fun _ => true) true fuel 24 (frameV id lo fa re sz a len cap).cells.toList = some x)
    (hw : (DataW.weights Tryz.prog 24 x.1).all (· ≤ reachBytes) = true) : len ≤ 140737488351232 := by
  obtain ⟨xs, n, _, rfl, _, hlen, hF⟩ := DataW.trod_struct Tryz.underlying24 hf
  have hcv : (frameV id lo fa re sz a len cap).cells.toList = [.int .i64 id, .bool lo, .bool fa, .bool re, .int .i64 sz, .slice a len cap] := rfl
  rw [hcv] at hF
  have h6 : xs.length = 6 := hlen
  obtain ⟨y5, e5⟩ : ∃ y, xs[5]? = some y := ⟨xs[5]'(by omega), List.getElem?_eq_getElem (by omega)⟩
  have f5 := hF 5 _ rfl
  rw [e5] at f5
  have f5 : DataW.trod enc Tryz.prog W 0 (fun _ => true) true n 22 (([Value.int .i64 id, .bool lo, .bool fa, .bool re, .int .i64 sz, .slice a len cap].drop 5).take (Tryz.prog.cellsOf 22)) = some y5 := f5
  rw [row_c1] at f5
  have e6 : ([Value.int .i64 id, .bool lo, .bool fa, .bool re, .int .i64 sz, .slice a len cap].drop 5).take 1 = [.slice a len cap] := rfl
  rw [e6] at f5
  have hwe : (DataW.weightsEach Tryz.prog [3, 4, 4, 4, 3, 22] (xs.map (·.1))).all (· ≤ reachBytes) = true := by
    have hw' := hw
    unfold DataW.weights at hw'
    rw [Tryz.underlying24] at hw'
    exact hw'
  rcases open_ints Tryz.underlying22 Tryz.underlying5 byte_c1 f5 with ⟨q5, _⟩ | ⟨a', len', cap', zs, q5, _, hl, hm, hz, hx5, _, _⟩
  · simp only [List.cons.injEq, and_true, Value.slice.injEq] at q5
    omega
  · simp only [List.cons.injEq, and_true, Value.slice.injEq] at q5
    obtain ⟨-, q6, q7⟩ := q5
    have hd5 : (xs.map (·.1))[5]? = some (.slice (lits .u8 (zs.take len')) (lits .u8 (zs.drop len'))) := by
      rw [List.getElem?_map, e5, hx5]; rfl
    have hs := sized_slice hwe (j := 5) (t := 22) (e := 5) rfl hd5 Tryz.underlying22
    rw [bytes_b1] at hs
    simp only [lits, List.length_map, List.length_take, List.length_drop, reachBytes] at hs
    simp at hz
    omega
end Bw
end Go.Proofs.YtjeogdfejnoanacGreatDoor
