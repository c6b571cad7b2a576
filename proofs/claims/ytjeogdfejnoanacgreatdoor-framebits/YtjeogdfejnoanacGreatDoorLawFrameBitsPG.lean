/- Joined out of our texts: FrHead, FrBits, FrBack, EqualB, RefSame. -/
import Derived.Test.YtjeogdfejnoanacGreatDoorLawFrameBitsPF
import Derived.Test.YtjeogdfejnoanacGreatDoorLawFrameBitsPA
import Derived.BigQuiet
import Derived.Lib.QuietBelow
import Derived.Test.YtjeogdfejnoanacGreatDoorLawFrameBitsPC
import Derived.Test.YtjeogdfejnoanacGreatDoorBase8
/- What frame.head answers of a right frame. -/
namespace Go.Proofs.YtjeogdfejnoanacGreatDoor
open Go.ChangeShapes Go.WideShapes Go.ChangeAt Go.RowKit
namespace Bw
open Bm Cm Go.Sort

theorem sizes_low (n : Nat) (h : n ≤ 8) : n ∈ sizesL ∧ sizesL.idxOf n = n := by
  have : ∀ m : Fin 9, m.val ∈ sizesL ∧ sizesL.idxOf m.val = m.val := by decide +kernel
  exact this ⟨n, by omega⟩
/-- the number that tells the code -/
def sizeI (f : Fr) : Int := if f.re then f.sz else (f.dt.length : Int)
theorem code_idx {f : Fr} (hE : frE f = 0) : idxI sizesI (sizeI f) = (codeN f : Int) ∧ codeN f < 2 ^ 4 := by
  obtain ⟨-, -, e3, e4, e5, e6, e7, e8, e9⟩ := frE_ok hE
  unfold sizeI codeN
  cases hre : f.re
  · exact idx_sizes e9
  · have h := sizes_low f.sz.toNat (by omega)
    have h2 := idx_sizes h.1
    rw [h.2] at h2
    simp only [if_true]
    rw [show ((f.sz.toNat : Nat) : Int) = f.sz by omega] at h2
    exact ⟨by rw [h2.1]; omega, h2.2⟩
theorem FrAt.regrown {w : World} {g : Nat} {id : Int} {lo fa re : Bool} {sz : Int} {a : Option Addr} {len cap : Nat} (h : FrAt w g id lo fa re sz a len cap) (d : Nat) (os : Array Obj) : FrAt (grow (redrawn w d) os) g id lo fa re sz a len cap :=
  ⟨cell_regrown h.c0 d os, cell_regrown h.c1 d os, cell_regrown h.c2 d os, cell_regrown h.c3 d os, cell_regrown h.c4 d os, cell_regrown h.c5 d os⟩

set_option maxHeartbeats 8000000 in
theorem head_any (f : Fr) (a : Option Addr) (len cap : Nat) (w : World) (hS : SizesAt w) (hE : frE f = 0) (hr : IsBytes w a len cap f.dt) :
    Calls Tryz.prog 20 #[frameV f.id f.lo f.fa f.re f.sz a len cap] w fun e w' => e = .returned (.string ⟨(headL f).toArray⟩) ∧ Below w.heap.size w w' := by
  obtain ⟨e1, e2, e3, e4, e5, e6, e7, e8, e9⟩ := frE_ok hE
  have hdl : f.dt.length = len := hr.1
  obtain ⟨hix, hcode⟩ := code_idx hE
  have hB := below_box w f.id f.lo f.fa f.re f.sz a len cap
  have hK := FrAt.box w f.id f.lo f.fa f.re f.sz a len cap
  unfold frameC at hB hK
  have hnm := fun W => name_any f a len cap W e1 e2
  have hfm := fun W => form_any f a len cap W
  unfold frameV at hnm hfm ⊢
  have hco := fun W hW => codeOf_any (sizeI f) W hW
  rw [hix] at hco
  have hro := fun W => row_ok (codeN f) 4 W (by omega) hcode
  have hof := fun W hB => of_any a len cap f.dt W (by omega) hB
  have hNl := mk_list (nameL f)
  have hNs := nameL_len f
  have hMl := mk_list (midL f)
  have hMs := midL_len f
  have hRl := mk_list (bitsHead (codeN f) 4 4)
  have hOl := mk_list (ofL f.dt)
  have hOs : (ofL f.dt).length ≤ 512 := by rw [ofL_length]; omega
  have hfin : headL f = [48] ++ nameL f ++ midL f ++ bitsHead (codeN f) 4 4 ++ ofL f.dt := rfl
  generalize ByteArray.mk (nameL f).toArray = NM at *
  generalize ByteArray.mk (midL f).toArray = MD at *
  generalize ByteArray.mk (bitsHead (codeN f) 4 4).toArray = CD at *
  generalize ByteArray.mk (ofL f.dt).toArray = OF at *
  have z1 : NM.size ≤ 32 := by rw [ba_size hNl, hNs]; split <;> omega
  have z2 : MD.size ≤ 4 := by rw [ba_size hMl]; omega
  have z3 : CD.size ≤ 4 := by rw [ba_size hRl, bitsHead_length]; exact Nat.le_refl _
  have z4 : OF.size ≤ 512 := by rw [ba_size hOl]; exact hOs
  have HS := Hid.mk (hS.kept hB)
  have HBY := Hid.mk (isBytes_below hr hB)
  have HNM := Hid.mk hnm
  have HFM := Hid.mk hfm
  have HCO := Hid.mk hco
  have HRO := Hid.mk hro
  have HOF := Hid.mk hof
  have HK := Hid.mk hK
  have HFIN := Hid.mk hfin
  have HL := Hid.mk (And.intro hNl (And.intro hMl (And.intro hRl hOl)))
  have hlen : (len : Int) ≤ 64 := by omega
  have hsi : sizeI f = if f.re then f.sz else (len : Int) := by unfold sizeI; rw [hdl]
  have HSI := Hid.mk hsi
  clear hS hr hnm hfm hco hro hof hNl hNs hMl hMs hRl hOl hOs hfin hK e1 e2 e3 e4 e5 e6 e7 e8 e9 hE hix hcode hdl hsi
  generalize codeN f = cn at *
  generalize sizeI f = si at *
  cases hre : f.re
  all_goals
    rw [hre] at HNM HFM HK hB HSI HS HBY
    have hsi := HSI.out
    simp only [Bool.false_eq_true, if_false, if_true] at hsi
    subst hsi
    go_enter Tryz.func20, Tryz.ntmps20
    go_wp2_with fail
    refine (HCO.out _ HS.out).mono ?_
    rintro e w1 ⟨rfl, hw1⟩
    subst hw1
    go_wp2_with fail
    refine (HRO.out _).mono ?_
    rintro e w2 ⟨rfl, hb2⟩
    have hbel2 := bl2 hB hb2
    have HBY2 := Hid.mk (isBytes_below HBY.out hb2)
    have HK2 := Hid.mk (HK.out.kept hb2)
    have k5 := HK2.out.c5
    clear hB hb2 HBY HK HCO HRO HS
    go_wp2_with fail
    refine (HOF.out _ HBY2.out).mono ?_
    rintro e w3 ⟨rfl, hb3⟩
    have hbel3 := bl2 hbel2 hb3
    have HK3 := Hid.mk (HK2.out.kept hb3)
    clear hbel2 hb3 HBY2 HK2 k5 HOF
    have r0 := fun d os => (HK3.out.regrown d os).c0
    have r1 := fun d os => (HK3.out.regrown d os).c1
    have r2 := fun d os => (HK3.out.regrown d os).c2
    have r3 := fun d os => (HK3.out.regrown d os).c3
    have r4 := fun d os => (HK3.out.regrown d os).c4
    have r5 := fun d os => (HK3.out.regrown d os).c5
    go_wp2_with fail
    refine wp_region_quiet_below (by kernel_rfl) (by kernel_rfl) ?_
    set_option maxRecDepth 100000 in
    repeat (go_big_quiet_step (first
      | (go_at_call 19; exact Calls.regrown_of (HNM.out _))
      | (go_at_call 53; exact Calls.regrown_of (HFM.out _))))
    refine wpQuiet_nil ?_
    intro _ hw'
    obtain ⟨⟨dq, osq⟩, hw''⟩ := hw'
    subst hw''
    have hbq := bl2 hbel3 (below_regrown w3 dq osq)
    clear r0 r1 r2 r3 r4 r5 hbel3
    go_wp2_with fail
    go_ret
    obtain ⟨l1, l2, l3, l4⟩ := HL.out
    exact ⟨ret_str1 (by rw [HFIN.out, ba_cat, ba_cat, ba_cat, ba_cat, l1, l2, l3, l4]), hbq⟩
end Bw
end Go.Proofs.YtjeogdfejnoanacGreatDoor

/- What frame.Bits answers of any frame. -/
namespace Go.Proofs.YtjeogdfejnoanacGreatDoor
open Go.ChangeShapes Go.WideShapes Go.ChangeAt Go.RowKit
namespace Bw
open Bm Cm

def bitsA (f : Fr) : Value := if frE f = 0 then .tuple #[.string ⟨(bitsL f).toArray⟩, .int .i64 0] else .tuple #[.string ⟨#[]⟩, .int .i64 (frE f)]
set_option maxHeartbeats 4000000 in
theorem frBits_bad (f : Fr) (a : Option Addr) (len cap : Nat) (w : World) (hS : SizesAt w) (hl : len ≤ maxLen) (hd : f.dt.length = len) (hE : frE f ≠ 0) :
    Calls Tryz.prog 7 #[frameV f.id f.lo f.fa f.re f.sz a len cap] w fun e w' => e = .returned (.tuple #[.string ⟨#[]⟩, .int .i64 (frE f)]) ∧ Below w.heap.size w w' := by
  have hB := below_box w f.id f.lo f.fa f.re f.sz a len cap
  have hck := frCheck_any f.id f.lo f.fa f.re f.sz a len cap _ (hS.kept hB) hl
  have hE' : frEn f.id f.lo f.fa f.re f.sz len = frE f := by unfold frE; rw [hd]
  rw [hE'] at hck
  unfold frameC at hB hck
  unfold frameV at hck ⊢
  have HCK := Hid.mk hck
  have hne : (frE f != 0) = true := by simpa using hE
  clear hS hl hd hck hE' hE
  generalize frE f = ce at *
  go_enter Tryz.func7, Tryz.ntmps7
  go_wp2_with fail
  refine HCK.out.mono ?_
  rintro e w1 ⟨rfl, hb1⟩
  have hbel1 := bl2 hB hb1
  clear hB hb1
  go_wp2_with fail
  go_ret2
  exact ⟨rfl, hbel1⟩
set_option maxHeartbeats 8000000 in
theorem frBits_ok (f : Fr) (a : Option Addr) (len cap : Nat) (w : World) (hS : SizesAt w) (hR : RulesAt w) (hr : IsBytes w a len cap f.dt) (hE : frE f = 0) :
    Calls Tryz.prog 7 #[frameV f.id f.lo f.fa f.re f.sz a len cap] w fun e w' => e = .returned (.tuple #[.string ⟨(bitsL f).toArray⟩, .int .i64 0]) ∧ Below w.heap.size w w' := by
  obtain ⟨e1, e2, e3, e4, e5, e6, e7, e8, e9⟩ := frE_ok hE
  have hdl : f.dt.length = len := hr.1
  have hB := below_box w f.id f.lo f.fa f.re f.sz a len cap
  have hK := FrAt.box w f.id f.lo f.fa f.re f.sz a len cap
  have hck := frCheck_any f.id f.lo f.fa f.re f.sz a len cap _ (hS.kept hB) (by unfold maxLen; omega)
  have hE' : frEn f.id f.lo f.fa f.re f.sz len = 0 := by rw [← hE]; unfold frE; rw [hdl]
  rw [hE'] at hck
  have hhd := fun W hW hBy => head_any f a len cap W hW hE hBy
  have hHr := headL_row f
  have hHn := (headL_le f e7).2
  have hH1 := (headL_le f e7).1
  have hHl := mk_list (headL f)
  generalize ByteArray.mk (headL f).toArray = H at *
  have hHs : H.size = (headL f).length := ba_size hHl
  have hHc : checkE H.data.toList = 0 := checkE_row (by rw [hHl]; exact hHr) (by simp; omega)
  unfold frameC at hB hK hck
  unfold frameV at hhd hck ⊢
  have HCK := Hid.mk hck
  have H1 := Hid.mk hhd
  have HK := Hid.mk hK
  have HS := Hid.mk (hS.kept hB)
  have HR := Hid.mk (hR.kept hB)
  have HB := Hid.mk (isBytes_below hr hB)
  have hHz : H.size ≤ 553 := by omega
  have hlen : len ≤ 64 := by omega
  cases hfa : f.fa
  · have hbl : bitsL f = putF (headL f ++ sumL 0 (headL f)) ++ onesL := by unfold bitsL; rw [hfa]; rfl
    have hso := fun W hW => sum_ok 0 H W hW hHc (by omega)
    rw [hHl] at hso
    have hSl := mk_list (sumL 0 (headL f))
    have hSn := sumL_len 0 (headL f)
    have hSr := sumL_row 0 (headL f)
    generalize sumL 0 (headL f) = sl at *
    generalize ByteArray.mk sl.toArray = S at *
    have hk0 : kS 0 = 15 := rfl
    have hSz : S.size ≤ 15 := by rw [ba_size hSl, hSn, hk0]; exact Nat.le_refl _
    obtain ⟨Y, hY⟩ : ∃ Y, Y = H ++ S := ⟨_, rfl⟩
    have hYl : Y.data.toList = headL f ++ sl := by rw [hY, ba_cat, hHl, hSl]
    have hYs : Y.size = (headL f).length + sl.length := by rw [ba_size hYl, List.length_append]
    have hpu := fun W => put_ok Y W (checkE_row (by rw [hYl, rowB_append, hHr, hSr]; rfl) (by simp; omega))
    rw [hYl] at hpu
    have hPl := mk_list (putF (headL f ++ sl))
    have hPn := putF_len2 (headL f ++ sl)
    rw [List.length_append] at hPn
    simp only [hY] at hpu
    generalize putF (headL f ++ sl) = pl at *
    generalize ByteArray.mk pl.toArray = P at *
    have hPz : P.size ≤ 1200 := by rw [ba_size hPl]; omega
    have H2 := Hid.mk hso
    have H3 := Hid.mk hpu
    have HPL := Hid.mk hPl
    have HBL := Hid.mk hbl
    rw [hfa] at H1 HK hB HCK HS HR HB
    clear hhd hHr hHn hH1 hHl hHs hK hS hR hr hbl hso hSl hSn hSr hk0 hYl hYs hpu hPl hPn e1 e2 e3 e4 e5 e6 e7 e8 e9 hE hdl hY hHc hck hE'
    go_enter Tryz.func7, Tryz.ntmps7
    go_wp2_with fail
    refine HCK.out.mono ?_
    rintro e w0 ⟨rfl, hb0⟩
    have hbel0 := bl2 hB hb0
    obtain ⟨k0, k1, k2, k3, k4, k5⟩ := HK.out.kept hb0
    have HK0 := Hid.mk (HK.out.kept hb0)
    have HS0 := Hid.mk (HS.out.kept hb0)
    have HR0 := Hid.mk (HR.out.kept hb0)
    have HB0 := Hid.mk (isBytes_below HB.out hb0)
    clear hB hb0 HK HS HR HB HCK
    go_wp2_with fail
    refine (H1.out _ HS0.out HB0.out).mono ?_
    rintro e w1 ⟨rfl, hb1⟩
    have hbel1 := bl2 hbel0 hb1
    have j2 := (HK0.out.kept hb1).c2
    have HR1 := Hid.mk (HR0.out.kept hb1)
    clear hb1 hbel0 k0 k1 k2 k3 k4 k5 HK0 HS0 HR0 HB0 H1
    go_wp2_with fail
    refine (H2.out _ HR1.out).mono ?_
    rintro e w2 ⟨rfl, hb2⟩
    have hbel2 := bl2 hbel1 hb2
    clear hb2 hbel1 j2
    go_wp2_with fail
    refine (H3.out _).mono ?_
    rintro e w3 ⟨rfl, hb3⟩
    have hbel3 := bl2 hbel2 hb3
    clear hb3 hbel2
    go_wp2_with fail
    go_ret2
    exact ⟨ret_str2 (by rw [HBL.out, ba_cat, HPL.out]; rfl), hbel3⟩
  · have hbl : bitsL f = putF (headL f) ++ fastL (headL f) (putF (headL f)) f.dt.length ++ onesL := by unfold bitsL; rw [hfa]; rfl
    rw [fastL_fixed, hdl] at hbl
    have hpu := fun W => put_ok H W hHc
    rw [hHl] at hpu
    have hPl := mk_list (putF (headL f))
    have hPr := putF_row (headL f) hHr
    obtain ⟨kk, hk1, hk2⟩ := putF_most (headL f) hHr
    generalize hpp : putF (headL f) = pl at *
    generalize ByteArray.mk pl.toArray = P at *
    have hPs : P.size = pl.length := ba_size hPl
    have hPz : P.size ≤ 900 := by omega
    have hfe := fun W hW => fixedPart_any P (pl.length - (headL f).length) len W hW (by omega) (by omega) (by rw [hPl]; exact hPr) (by omega)
    rw [hPl] at hfe
    have hq : ((pl.length - (headL f).length : Nat) : Int) = (P.size : Int) - (H.size : Int) := by omega
    simp only [hq] at hfe
    have hFl := mk_list (fixedL pl (pl.length - (headL f).length) len)
    have hFn : (fixedL pl (pl.length - (headL f).length) len).length ≤ 32 := by rw [fixedL_len]; split <;> omega
    generalize fixedL pl (pl.length - (headL f).length) len = fl at *
    generalize ByteArray.mk fl.toArray = F at *
    have hFz : F.size ≤ 32 := by rw [ba_size hFl]; exact hFn
    have hHP : (H.size : Int) ≤ (P.size : Int) := by omega
    have H2 := Hid.mk hpu
    have H3 := Hid.mk hfe
    have HPL := Hid.mk hPl
    have HFL := Hid.mk hFl
    have HBL := Hid.mk hbl
    rw [hfa] at H1 HK hB HCK HS HR HB
    clear hhd hHr hHn hH1 hHl hHs hK hS hR hr hbl hpu hPl hPr hk1 hk2 hpp hPs hfe hFl hFn e1 e2 e3 e4 e5 e6 e7 e8 e9 hE hdl hHc hck hE' hq
    go_enter Tryz.func7, Tryz.ntmps7
    go_wp2_with fail
    refine HCK.out.mono ?_
    rintro e w0 ⟨rfl, hb0⟩
    have hbel0 := bl2 hB hb0
    obtain ⟨k0, k1, k2, k3, k4, k5⟩ := HK.out.kept hb0
    have HK0 := Hid.mk (HK.out.kept hb0)
    have HS0 := Hid.mk (HS.out.kept hb0)
    have HR0 := Hid.mk (HR.out.kept hb0)
    have HB0 := Hid.mk (isBytes_below HB.out hb0)
    clear hB hb0 HK HS HR HB HCK
    go_wp2_with fail
    refine (H1.out _ HS0.out HB0.out).mono ?_
    rintro e w1 ⟨rfl, hb1⟩
    have hbel1 := bl2 hbel0 hb1
    have j2 := (HK0.out.kept hb1).c2
    have HK1 := Hid.mk (HK0.out.kept hb1)
    have HR1 := Hid.mk (HR0.out.kept hb1)
    clear hb1 hbel0 k0 k1 k2 k3 k4 k5 HK0 HS0 HR0 HB0 H1
    go_wp2_with fail
    refine (H2.out _).mono ?_
    rintro e w2 ⟨rfl, hb2⟩
    have hbel2 := bl2 hbel1 hb2
    have m5 := (HK1.out.kept hb2).c5
    have HR2 := Hid.mk (HR1.out.kept hb2)
    clear hb2 hbel1 j2 HK1 HR1
    go_wp2_with fail
    refine (H3.out _ HR2.out).mono ?_
    rintro e w3 ⟨rfl, hb3⟩
    have hbel3 := bl2 hbel2 hb3
    clear hb3 hbel2 m5
    go_wp2_with fail
    go_ret2
    exact ⟨ret_str2 (by rw [HBL.out, ba_cat, ba_cat, HPL.out, HFL.out]; rfl), hbel3⟩
theorem frBits_any (f : Fr) (a : Option Addr) (len cap : Nat) (w : World) (hS : SizesAt w) (hR : RulesAt w) (hr : IsBytes w a len cap f.dt) :
    Calls Tryz.prog 7 #[frameV f.id f.lo f.fa f.re f.sz a len cap] w fun e w' => e = .returned (bitsA f) ∧ Below w.heap.size w w' := by
  unfold bitsA
  by_cases hE : frE f = 0
  · rw [if_pos hE]; exact frBits_ok f a len cap w hS hR hr hE
  · rw [if_neg hE]; exact frBits_bad f a len cap w hS (by have := hr.2.1; have := hr.2.2.1; omega) hr.1 hE
end Bw
end Go.Proofs.YtjeogdfejnoanacGreatDoor

/- What is sent is read by frame.Read, whatever follows. -/
namespace Go.Proofs.YtjeogdfejnoanacGreatDoor
open Go.ChangeShapes Go.WideShapes Go.ChangeAt Go.RowKit
namespace Bw
open Bm Cm

theorem fixR_row (l : List UInt8) (a : UInt8) (hl : rowB l = true) : ∀ i, i ≤ l.length → rowB (fixR l a i) = true
  | 0, _ => rfl
  | i + 1, h => by
    have ih := fixR_row l a hl i (by omega)
    have hb : bit (l.getD i 0) = true := by
      have hi : i < l.length := by omega
      rw [List.getD, List.getElem?_eq_getElem hi, Option.getD_some]
      exact rowB_all.1 hl _ (List.getElem_mem hi)
    rw [fixR, rowB_snoc, hb, Bool.and_true]
    split
    · rw [rowB_snoc, ih, otb_bit]; rfl
    · exact ih
theorem fixedL_row (p : List UInt8) (q n : Nat) : rowB (fixedL p q n) = true := by
  unfold fixedL fixL
  exact fixR_row _ _ (by rw [rowB_append, (gray_row _ (Nat.mod_lt _ (by omega))).1, sumL_row]; rfl) _ (Nat.le_refl _)
theorem preL_row (f : Fr) : rowB (preL f) = true := by
  unfold preL
  split
  · rw [rowB_append, putF_row _ (headL_row f), fastL_fixed, fixedL_row]; rfl
  · exact putF_row _ (by rw [rowB_append, headL_row, sumL_row]; rfl)
theorem preL_len (f : Fr) (hE : frE f = 0) : 1 ≤ (preL f).length ∧ (preL f).length ≤ 750 := by
  obtain ⟨-, -, -, -, -, -, e7, e8, -⟩ := frE_ok hE
  obtain ⟨h1, h2⟩ := headL_le f e7
  unfold preL
  split
  · obtain ⟨k, hk1, hk2⟩ := putF_most (headL f) (headL_row f)
    rw [List.length_append, fastL_fixed, fixedL_len]
    split <;> omega
  · obtain ⟨k, hk1, hk2⟩ := putF_most (headL f ++ sumL 0 (headL f)) (by rw [rowB_append, headL_row, sumL_row]; rfl)
    have hs : (sumL 0 (headL f)).length = 15 := sumL_len 0 _
    rw [List.length_append, hs] at hk1 hk2
    omega
theorem bitsL_len (f : Fr) : (bitsL f).length = (preL f).length + 10 := by rw [bitsL_pre, List.length_append]; rfl
theorem bitsL_row (f : Fr) : rowB (bitsL f) = true := by rw [bitsL_pre, rowB_append, preL_row]; rfl

theorem readBack_any (f : Fr) (e rest : List UInt8) (T : ByteArray) (w : World) (hS : SizesAt w) (hR : RulesAt w) (hE : frE f = 0) (he : e = onesL ∨ e = heardL) (hT : T.data.toList = preL f ++ (e ++ rest)) (hr : rowB rest = true) (hn : T.size ≤ 1000) :
    Calls Tryz.prog 15 #[.string T] w fun x w' => ∃ a len cap, x = .returned (.tuple #[frameV f.id f.lo f.fa f.re f.sz a len cap, .int .i64 ((preL f).length + 10 : Nat), .int .i64 0]) ∧ IsBytes w' a len cap f.dt ∧ Below w.heap.size w w' := by
  have her : rowB e = true := by rcases he with rfl | rfl <;> rfl
  have hrow : rowB T.data.toList = true := by rw [hT, rowB_append, rowB_append, preL_row, her, hr]; rfl
  have hl : T.data.toList.length = T.size := by simp
  have hc := checkE_row hrow (by omega)
  obtain ⟨b1, b2, b3⟩ := read_back f e rest hE he
  rw [← hT] at b1 b2 b3
  refine (read_ok T w hS hR hc).mono ?_
  rintro x w' ⟨-, h2, h3⟩
  obtain ⟨a, len, cap, hx, hby⟩ := h2 b1
  rw [b2, b3] at hx
  rw [b3] at hby
  exact ⟨a, len, cap, hx, hby, h3⟩
end Bw
end Go.Proofs.YtjeogdfejnoanacGreatDoor

/- What slices.Equal answers of two slices that hold the same bytes: true. -/
namespace Go.Proofs.YtjeogdfejnoanacGreatDoor
open Go.ChangeShapes Go.WideShapes Go.ChangeAt Go.RowKit
namespace Bw
open Bm

def HasBytes (w : World) (a : Option Addr) (n : Nat) (l : List UInt8) : Prop :=
  (a = none → n = 0) ∧ ∀ x, a = some x → ∀ i, i < n → w.cell? (x.add i) = some (.int .u8 (l.getD i 0).toNat)

set_option maxHeartbeats 1000000 in
theorem equalB_true (w : World) (a b : Option Addr) (n c d : Nat) (l : List UInt8) (hn : n ≤ maxLen) (ha : HasBytes w a n l) (hb : HasBytes w b n l) :
    Calls Tryz.prog 30 #[.slice a n c, .slice b n d] w fun e w' => e = .returned (.bool true) ∧ Below w.heap.size w w' := by
  have HA := Hid.mk ha
  have HB := Hid.mk hb
  unfold maxLen at hn
  clear ha hb
  go_enter Tryz.func30, Tryz.ntmps30
  go_wp2
  go_loopw [13] (fun i w' => ∃ k : Nat, k ≤ n ∧ i = .int .i64 k ∧ ∃ m, w' = w.drewN m) (fun i _ => n - (intOf i).toNat)
  case atStart => exact ⟨0, Nat.zero_le _, rfl, 0, rfl⟩
  case round =>
    obtain ⟨k, hk, rfl, m, rfl⟩ := hrel
    by_cases hlt : k < n
    · cases a with
      | none => exact absurd (HA.out.1 rfl) (by omega)
      | some x =>
        cases b with
        | none => exact absurd (HB.out.1 rfl) (by omega)
        | some y =>
          have g1 := HA.out.2 x rfl k hlt
          have g2 := HB.out.2 y rfl k hlt
          have hlt' : (k : Int) < (n : Int) := by omega
          go_wp2
          go_quiet (fail)
          go_wp2
          go_roundw
          case rel => exact ⟨k + 1, by omega, by go_num, _, rfl⟩
          case measure => simp [intOf]; omega
    · go_wp2
      go_ret
      exact ⟨rfl, ⟨rfl, rfl, rfl, Nat.le_refl _, fun _ _ => rfl⟩⟩
end Bw
end Go.Proofs.YtjeogdfejnoanacGreatDoor

/- What the document's own SameFrame answers of frames that are alike. -/
namespace Go.Proofs.YtjeogdfejnoanacGreatDoor
open Go.ChangeShapes Go.WideShapes Go.ChangeAt Go.RowKit
namespace Bw
open Bm Cm

set_option maxHeartbeats 8000000 in
theorem sameFrame_true (f : Fr) (a1 a2 : Option Addr) (n1 c1 n2 c2 : Nat) (w : World) (h1 : IsBytes w a1 n1 c1 f.dt) (h2 : IsBytes w a2 n2 c2 f.dt) :
    Calls Tryz.prog 11 #[frameV f.id f.lo f.fa f.re f.sz a1 n1 c1, frameV f.id f.lo f.fa f.re f.sz a2 n2 c2] w fun e w' => e = .returned (.bool true) ∧ Below w.heap.size w w' := by
  obtain ⟨id, lo, fa, re, sz, dt⟩ := f
  simp only at h1 h2 ⊢
  have hB1 := below_box w id lo fa re sz a1 n1 c1
  have hB2 := below_box (w.alloc (frameC id lo fa re sz a1 n1 c1)) id lo fa re sz a2 n2 c2
  have hB := bl2 hB1 hB2
  have hn : n1 = n2 := h1.1.symm.trans h2.1
  subst hn
  have hmx : n1 ≤ maxLen := by have := h1.2.1; have := h1.2.2.1; omega
  have hY1 := isBytes_below h1 hB
  have hY2 := isBytes_below h2 hB
  have hbe := equalB_true _ a1 a2 n1 c1 c2 dt hmx ⟨hY1.2.2.2.1, hY1.2.2.2.2⟩ ⟨hY2.2.2.2.1, hY2.2.2.2.2⟩
  have HBE := Hid.mk hbe
  have HB := Hid.mk hB
  unfold frameC at HBE HB
  unfold frameV
  clear h1 h2 hB1 hB2 hB hbe hY1 hY2 hmx
  go_enter Tryz.func11, Tryz.ntmps11
  go_wp2_with fail
  refine HBE.out.mono ?_
  rintro e w1 ⟨rfl, hb1⟩
  have hbel := bl2 HB.out hb1
  clear hb1
  go_wp2_with fail
  go_ret
  exact ⟨rfl, hbel⟩
end Bw
end Go.Proofs.YtjeogdfejnoanacGreatDoor
