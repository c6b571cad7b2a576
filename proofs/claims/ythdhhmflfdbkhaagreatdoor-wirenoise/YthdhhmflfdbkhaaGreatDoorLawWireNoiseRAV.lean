/- Joined out of our texts: RefBits. -/
import Derived.Test.YthdhhmflfdbkhaaGreatDoorLawWireNoiseRAH
import Derived.Test.YthdhhmflfdbkhaaGreatDoorLawWireNoiseRAT
import Derived.Test.YthdhhmflfdbkhaaGreatDoorLawWireNoiseRAU
/- What the document's own BitsOf answers of a right frame. -/
namespace Go.Proofs.YthdhhmflfdbkhaaGreatDoor
open Go.ChangeShapes Go.WideShapes Go.ChangeAt Go.RowKit
namespace Bw
open Bm Cm

set_option maxHeartbeats 8000000 in
theorem bitsOf_any (f : Fr) (a : Option Addr) (len cap : Nat) (w : World) (hD : w.cell? ⟨5, 1, none⟩ = some (.int .u8 1)) (hE : frE f = 0) (hr : IsBytes w a len cap f.dt) :
    Calls Tryz.prog 14 #[frameV f.id f.lo f.fa f.re f.sz a len cap] w fun e w' => e = .returned (.string ⟨(bitsL f).toArray⟩) ∧ Below w.heap.size w w' := by
  obtain ⟨e1, e2, e3, e4, e5, e6, e7, e8, e9⟩ := frE_ok hE
  have hdl : f.dt.length = len := hr.1
  have hb0 : Below w.heap.size w (w.alloc (.cells #[.int .i64 f.id, .bool f.lo, .bool f.fa, .bool f.re, .int .i64 f.sz, .slice a len cap] 24)) := (Below.refl _ _).alloc (Nat.le_refl _) _
  have hhd := fun W hW hB => headOf_any f a len cap W hW hE hB
  have hHr := headL_row f
  have hHn := (headL_le f e7).2
  have hH1 := (headL_le f e7).1
  have hHl := mk_list (headL f)
  generalize ByteArray.mk (headL f).toArray = H at *
  have hHs : H.size = (headL f).length := ba_size hHl
  have hK : ∀ j, (w.alloc (.cells #[.int .i64 f.id, .bool f.lo, .bool f.fa, .bool f.re, .int .i64 f.sz, .slice a len cap] 24)).cell? ⟨w.heap.size, j, none⟩ = #[Value.int .i64 f.id, .bool f.lo, .bool f.fa, .bool f.re, .int .i64 f.sz, .slice a len cap][j]? :=
    fun j => cell_of_row _ _ j _ _ _ (heap_alloc_new w _)
  unfold frameV at hhd ⊢
  have H1 := Hid.mk hhd
  have HK := Hid.mk hK
  have HD := Hid.mk hD
  have HB := Hid.mk hr
  have hHz : H.size ≤ 553 := by omega
  cases hfa : f.fa
  · have hbl : bitsL f = putF (headL f ++ sumL 0 (headL f)) ++ onesL := by unfold bitsL; rw [hfa]; rfl
    have hso := fun W hW => Ww.sumOf_any 0 H W hW (by omega) (by omega) (by rw [hHl]; exact hHr)
    rw [hHl, show bitsHead (sumV 0 (headL f)) (kS 0) (kS 0) = sumL 0 (headL f) from rfl] at hso
    have hSl := mk_list (sumL 0 (headL f))
    have hSn := sumL_len 0 (headL f)
    have hSr := sumL_row 0 (headL f)
    generalize sumL 0 (headL f) = sl at *
    generalize ByteArray.mk sl.toArray = S at *
    have hk0 : kS 0 = 15 := rfl
    have hSz : S.size ≤ 15 := by rw [ba_size hSl, hSn, hk0]; exact Nat.le_refl _
    obtain ⟨Y, hY⟩ : ∃ Y, Y = H ++ S := ⟨_, rfl⟩
    have hYl : Y.data.toList = headL f ++ sl := by rw [hY, ba_cat, hHl, hSl]
    have hYs : Y.size = (headL f).length + sl.length := by rw [ba_size hYl, List.length_append]
    have hpu := fun W => putBits_any Y W (by rw [hYl, rowB_append, hHr, hSr]; rfl) (by omega)
    rw [hYl] at hpu
    have hPl := mk_list (putF (headL f ++ sl))
    have hPn := putF_len2 (headL f ++ sl)
    rw [List.length_append] at hPn
    simp only [hY] at hpu
    generalize putF (headL f ++ sl) = pl at *
    generalize ByteArray.mk pl.toArray = P at *
    have hPz : P.size ≤ 1200 := by rw [ba_size hPl]; omega
    have H2 := Hid.mk hso
    have H3 := Hid.mk hpu
    have HPL := Hid.mk hPl
    have HBL := Hid.mk hbl
    rw [hfa] at H1 HK hb0
    clear hhd hHr hHn hH1 hHl hHs hK hD hr hbl hso hSl hSn hSr hk0 hYl hYs hpu hPl hPn e1 e2 e3 e4 e5 e6 e7 e8 e9 hE hdl hY
    go_enter Tryz.func14, Tryz.ntmps14
    go_wp2_with fail
    refine (H1.out _ (cell_kept hb0 HD.out) (isBytes_below HB.out hb0)).mono ?_
    rintro e w1 ⟨rfl, hb1⟩
    have hbel1 := bl2 hb0 hb1
    have k2 := cell_kept hb1 (HK.out 2)
    simp at k2
    clear hb1 hb0
    go_wp2_with fail
    refine (H2.out _ (cell_kept hbel1 HD.out)).mono ?_
    rintro e w2 ⟨rfl, hb2⟩
    have hbel2 := bl2 hbel1 hb2
    clear hb2 hbel1 k2
    go_wp2_with fail
    refine (H3.out _).mono ?_
    rintro e w3 ⟨rfl, hb3⟩
    have hbel3 := bl2 hbel2 hb3
    clear hb3 hbel2
    go_wp2_with fail
    go_ret
    exact ⟨ret_str1 (by rw [HBL.out, ba_cat, HPL.out]; rfl), hbel3⟩
  · have hbl : bitsL f = putF (headL f) ++ fastL (headL f) (putF (headL f)) f.dt.length ++ onesL := by unfold bitsL; rw [hfa]; rfl
    have hpu := fun W => putBits_any H W (by rw [hHl]; exact hHr) (by omega)
    rw [hHl] at hpu
    have hPl := mk_list (putF (headL f))
    have hPr := putF_row (headL f) hHr
    obtain ⟨kk, hk1, hk2⟩ := putF_most (headL f) hHr
    generalize hpp : putF (headL f) = pl at *
    generalize ByteArray.mk pl.toArray = P at *
    have hPs : P.size = pl.length := ba_size hPl
    have hPz : P.size ≤ 900 := by omega
    have hfe := fun W hW => fastEnd_any H P len W hW (by omega) (by omega) hPz (by rw [hPl]; exact hPr) (by omega)
    rw [hHl, hPl] at hfe
    rw [hdl] at hbl
    have hFl := mk_list (fastL (headL f) pl len)
    have hFn : (fastL (headL f) pl len).length ≤ 50 := by
      unfold fastL fixL
      have h1 := fixR_len (tailL (headL f) pl len) (lastB pl) (tailL (headL f) pl len).length
      have h2 := tailL_le (headL f) pl len
      omega
    generalize fastL (headL f) pl len = fl at *
    generalize ByteArray.mk fl.toArray = F at *
    have hFz : F.size ≤ 50 := by rw [ba_size hFl]; exact hFn
    have H2 := Hid.mk hpu
    have H3 := Hid.mk hfe
    have HPL := Hid.mk hPl
    have HFL := Hid.mk hFl
    have HBL := Hid.mk hbl
    rw [hfa] at H1 HK hb0
    have hlen : len ≤ 64 := by omega
    clear hhd hHr hHn hH1 hHl hHs hK hD hr hbl hpu hPl hPr hk1 hk2 hpp hPs hfe hFl hFn e1 e2 e3 e4 e5 e6 e7 e8 e9 hE hdl
    go_enter Tryz.func14, Tryz.ntmps14
    go_wp2_with fail
    refine (H1.out _ (cell_kept hb0 HD.out) (isBytes_below HB.out hb0)).mono ?_
    rintro e w1 ⟨rfl, hb1⟩
    have hbel1 := bl2 hb0 hb1
    have k2 := cell_kept hb1 (HK.out 2)
    have k5 := cell_kept hb1 (HK.out 5)
    simp at k2 k5
    clear hb1 hb0
    go_wp2_with fail
    refine (H2.out _).mono ?_
    rintro e w2 ⟨rfl, hb2⟩
    have hbel2 := bl2 hbel1 hb2
    have k55 := cell_kept hb2 k5
    clear hb2 hbel1 k2 k5
    go_wp2_with fail
    refine (H3.out _ (cell_kept hbel2 HD.out)).mono ?_
    rintro e w3 ⟨rfl, hb3⟩
    have hbel3 := bl2 hbel2 hb3
    clear hb3 hbel2 k55
    go_wp2_with fail
    go_ret
    exact ⟨ret_str1 (by rw [HBL.out, ba_cat, ba_cat, HPL.out, HFL.out]; rfl), hbel3⟩
end Bw
end Go.Proofs.YthdhhmflfdbkhaaGreatDoor
