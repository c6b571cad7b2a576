/- The law PartGet: a next part that is right. -/
import Derived.Test.YtljigcmhkjbhjaaPtCg
import Derived.Test.YtljigcmhkjbhjaaPtConc
import Derived.Test.YtljigcmhkjbhjaaPtLed
import Derived.Deep.RegionHeld3
import Derived.RegionTactic
import Derived.BigRegion
namespace Go.Proofs.Ytljigcmhkjbhjaa
open Go.ChangeShapes Go.WideShapes Go.ChangeAt Go.RowKit
namespace Bw
open Bm
set_option linter.unusedVariables false
set_option maxHeartbeats 8000000 in
set_option maxRecDepth 100000 in
theorem pget_whole (wt : Nat) (x : Addr) (n cap q : Nat) (block left : Int) (y : Addr) (m mc : Nat) (dt p : List UInt8) (w : World) (hG : IsBytes w (some x) n cap dt) (hP : IsBytes w (some y) m mc p) (hX : getX (wt : Int) (q : Int) block left dt p = ⟨0, 0, block, 0, [], [], dt ++ p.drop 1, 0⟩) (hE : gtE n (wt : Int) (q : Int) block left = 0) (c0 : Nat) (hc0 : c0 < 256) (hm1 : 1 ≤ m) (hm8 : m ≤ 8) (hy : w.cell? y = some (.int .u8 (c0 : Int))) (hk : 32 ≤ c0 ∧ c0 < 48) (hq : q = c0 - 32) (hwt : 8 ≤ wt) (hf : m = 1 + min (wt - n) 7) (hwh : n + (m - 1) = wt) :
    Calls Try.prog 5 #[gtV (wt : Int) (some x) n cap (q : Int) block left, .slice (some y) m mc] w fun e w' => e = .returned (.bool true) ∧ Below w.heap.size w w' := by
  have hB0 := awG w (gtC (wt : Int) (some x) n cap (q : Int) block left)
  have HGT := Hid.mk (get_any (wt : Int) (some x) n cap (q : Int) block left (some y) m mc dt p _ (isBytes_below hG hB0) (isBytes_below hP hB0))
  rw [hX] at HGT
  have HCL := Hid.mk (fun W => lcheckGetter_any (some x) n cap (wt : Int) (q : Int) block left W (Nat.le_trans hG.2.1 hG.2.2.1))
  have HCG := Hid.mk (fun W => checkGetter_any (some x) n cap (wt : Int) (q : Int) block left W (Nat.le_trans hG.2.1 hG.2.2.1))
  have hPT := fun W => parted_any W
  have HR := Hid.mk (Row5.new w 44 (.int .i64 (wt : Int)) (.slice (some x) n cap) (.int .i64 (q : Int)) (.int .i64 block) (.int .i64 left))
  have HB := Hid.mk hB0
  have HGG := Hid.mk hG
  have HPP := Hid.mk hP
  have hml : (m : Int) ≤ 9223372036854775807 := by have := hP.2.1; have := hP.2.2.1; unfold maxLen at this; omega
  rw [hE] at HCL HCG
  have hbl := (gtE_ok hE).1.2.1
  have hm0 : ((m : Int) == 0) = false := by simp; omega
  have hm8' : ¬ ((8 : Int) < (m : Int)) := by omega
  have hm8i : (m : Int) ≤ 8 := by omega
  have hmp : 0 < m := by omega
  have hmpi : (0 : Int) < (m : Int) := by omega
  have hc0i : (c0 : Int) ≤ 255 := by omega
  have HY0 := Hid.mk hy
  have q1 : ¬ ((c0 : Int) < 16) := by omega
  have q2 : ¬ ((c0 : Int) < 32) := by omega
  have q3 : (c0 : Int) < 48 := by omega
  have hqs : (c0 : Int) - 32 = (q : Int) := by omega
  have hqw : IntKind.u8.wrap ((c0 : Int) - 32) = (q : Int) := by rw [hqs, IntKind.wrap_u8]; omega
  have hq15 : (q : Int) ≤ 15 := by omega
  have hw0 : ((wt : Int) == 0) = false := by simp; omega
  obtain ⟨h8, hnw, hbt, hnum, hlb⟩ := gtF_more (gtE_ok hE).2 (by omega)
  have hw3 := (gtE_ok hE).1.1
  obtain ⟨d, hd⟩ : ∃ d, d = wt - n := ⟨_, rfl⟩
  have hds : (wt : Int) - (n : Int) = (d : Int) := by omega
  have hd3 : (d : Int) ≤ 300 := by omega
  obtain ⟨mn, hmn⟩ : ∃ mn, mn = min d 7 := ⟨_, rfl⟩
  have hmin : (if (d : Int) < (7 : Int) then (d : Int) else (7 : Int)) = (mn : Int) := by split <;> omega
  have hmin2 : min (7 : Int) (d : Int) = (mn : Int) := by omega
  have hmn7 : (mn : Int) ≤ 7 := by omega
  have hwti : (wt : Int) ≤ 300 := by omega
  have hni : (n : Int) ≤ 300 := by omega
  have hmc : m ≤ mc := hP.2.1
  have hmcn : ¬ mc = 1 := by omega
  have hmci : (1 : Int) < (mc : Int) := by omega
  have hm1i : (1 : Int) ≤ (m : Int) := by omega
  have hcut : IsBytes w (some ⟨y.block, y.off + 1, none⟩) (m - 1) (mc - 1) (p.drop 1) := by
    have h1 := isBytes_cut hP 1 m (by omega) (Nat.le_refl _)
    rw [List.take_of_length_le (by rw [List.length_drop]; have := hP.1; omega), add1P] at h1
    exact h1
  have HCUT := Hid.mk hcut
  obtain ⟨NS, hNS⟩ : ∃ NS, NS = n + m := ⟨_, rfl⟩
  have hns : (n : Int) + (m : Int) = (NS : Int) := by omega
  obtain ⟨T, hT⟩ : ∃ T, T = n + (m - 1) := ⟨_, rfl⟩
  have hts : (NS : Int) - 1 = (T : Int) := by omega
  have hNSb : (NS : Int) ≤ 400 := by omega
  have HT := Hid.mk hT
  have h6n : 6 ≤ n := by unfold btw at hbt; simp at hbt; exact hbt.1
  have HCO := Hid.mk (fun g W (hW : Below w.heap.size w W) h0 h1 => concatB g x ⟨y.block, y.off + 1, none⟩ n cap (m - 1) (mc - 1) dt (p.drop 1) W h0 h1 (isBytes_below hG hW) (isBytes_below hcut hW) (by omega) (by omega) (by omega) (by omega))
  rw [← hT] at HCO
  have q9 : ((m : Int) != 1 + (mn : Int)) = false := by simp; omega
  have q10 : ((T : Int) == (wt : Int)) = true := by simp; omega
  generalize dt ++ p.drop 1 = DT at *
  generalize p.drop 1 = PD at *
  clear hwh
  clear hk hq hd hmn h8 hnw hbt hnum hlb hw3 hcut hNS hT hwt hf hbl
  clear hG hP hE hy hm8 hm1 hc0
  unfold gtC at HB HGT
  unfold gtV at HGT HCL HCG ⊢
  clear hB0 hX
  go_enter Try.func5, Try.ntmps5
  go_wp2_with fail
  refine HGT.out.mono ?_
  rintro e w1 ⟨o1, n1, e1, o2, n2, e2, o3, n3, e3, rfl, hf1, hf2, hf3, -, hb1⟩
  unfold gtV
  skip
  simp only at *
  have hba := awG w1 (.cells #[.int .i64 0, .slice o1 n1 e1, .int .i64 0, .int .i64 block, .int .i64 0] 44)
  have hbb := bl2 hb1 hba
  have HB1 := Hid.mk (bl2 HB.out hbb)
  have HR1 := Hid.mk (HR.out.kept hbb)
  have HX1 := Hid.mk (Row5.new w1 44 (.int .i64 0) (.slice o1 n1 e1) (.int .i64 0) (.int .i64 block) (.int .i64 0))
  have HF1 := Hid.mk (isBytes_below hf1.1 hba)
  have HF2 := Hid.mk (isBytes_below hf2.1 hba)
  have HF3 := Hid.mk (isBytes_below hf3.1 hba)
  obtain ⟨a0, a1, a2, a3, a4⟩ := HR1.out.cells
  clear hf1 hf2 hf3 hb1 hba hbb HB HR HGT
  go_wp2_with fail
  generalize w1.alloc (.cells #[.int .i64 0, .slice o1 n1 e1, .int .i64 0, .int .i64 block, .int .i64 0] 44) = W1 at *
  generalize w1.heap.size = s1 at *
  refine (HCL.out _).mono ?_
  rintro e w2 ⟨rfl, hb2⟩
  have HB2 := Hid.mk (bl2 HB1.out hb2)
  have hb2' := hb2
  clear HCL a0 a1 a2 a3 a4
  go_wp2_with fail
  refine (hPT _).mono ?_
  rintro e w3 ⟨rfl, hb3⟩
  have hb3' := bl2 hb2' hb3
  have HB3 := Hid.mk (bl2 HB1.out hb3')
  obtain ⟨a0, a1, a2, a3, a4⟩ := (HR1.out.kept hb3').cells
  clear hb2 hb2' hb3 HB2
  go_wp2_with fail
  refine (HCG.out _).mono ?_
  rintro e w4 ⟨rfl, hb4⟩
  have hb4' := bl2 hb3' hb4
  have HR4 := Hid.mk (HR1.out.kept hb4')
  have HB4 := Hid.mk (bl2 HB1.out hb4')
  clear a0 a1 a2 a3 a4 hb4 hb3' HB3
  have hq5 := awG w4 (.cells #[.int .i64 0, .slice none 0 0, .int .i64 0, .int .i64 block, .int .i64 0] 44)
  have hq6 := awG (w4.alloc (.cells #[.int .i64 0, .slice none 0 0, .int .i64 0, .int .i64 block, .int .i64 0] 44)) (.cells #[.int .u8 48, .int .u8 (block % 256), .int .u8 0] 5)
  have hq7 := bl2 hq5 hq6
  have hq8 := bl2 hb4' hq7
  have HB5 := Hid.mk (bl2 HB4.out hq7)
  have HR5 := Hid.mk (HR4.out.kept hq7)
  have HX5 := Hid.mk (HX1.out.kept hq8)
  have HW5 := Hid.mk ((Row5.new w4 44 (.int .i64 0) (.slice none 0 0) (.int .i64 0) (.int .i64 block) (.int .i64 0)).kept hq6)
  have HE1 := Hid.mk (isBytes_below HF1.out hq8)
  have HE2 := Hid.mk (isBytes_below HF2.out hq8)
  have HE3 := Hid.mk (isBytes_below HF3.out hq8)
  have HFL : Hid ((w4.alloc (.cells #[.int .i64 0, .slice none 0 0, .int .i64 0, .int .i64 block, .int .i64 0] 44)).heap.size = w4.heap.size + 1) := Hid.mk (by simp)
  obtain ⟨-, -, -, i3, -⟩ := HR4.out.cells
  obtain ⟨-, -, -, j3, -⟩ := (HR4.out.kept hq5).cells
  obtain ⟨k0, k1, k2, k3, k4⟩ := HR5.out.cells
  clear hb4' hq5 hq6 hq7 hq8 HR1 HX1 HF1 HF2 HF3 HB1 HB4 HR4 HCG
  have d0 := cell_kept HB5.out HY0.out
  go_wp2_with fail
  generalize ((w4.alloc (.cells #[.int .i64 0, .slice none 0 0, .int .i64 0, .int .i64 block, .int .i64 0] 44)).alloc (.cells #[.int .u8 48, .int .u8 (block % 256), .int .u8 0] 5)) = W5 at *
  generalize w4.heap.size = s4 at *
  go_quiet (fail)
  have hbq : Below W5.heap.size W5 (W5.drewN nq) := drP (Below.refl _ _) nq
  have HB5 := Hid.mk (bl2 HB5.out hbq)
  have HR5 := Hid.mk (HR5.out.kept hbq)
  have HX5 := Hid.mk (HX5.out.kept hbq)
  have HW5 := Hid.mk (HW5.out.kept hbq)
  have HE1 := Hid.mk (isBytes_below HE1.out hbq)
  have HE2 := Hid.mk (isBytes_below HE2.out hbq)
  have HE3 := Hid.mk (isBytes_below HE3.out hbq)
  clear d0 k0 k1 k2 k3 k4 i3 j3
  generalize W5.drewN nq = W6 at *
  have d0 := cell_kept HB5.out HY0.out
  obtain ⟨k0, k1, k2, k3, k4⟩ := HR5.out.cells
  have i3 := k3
  have j3 := k3
  go_wp2_with fail
  have HK : Hid (∀ W : World, Below W6.heap.size W6 W → W.cell? ⟨w.heap.size, 1, none⟩ = some (.slice (some x) n cap)) := Hid.mk (fun W hb => (HR5.out.kept hb).cells.2.1)
  have hd2 := bl2 (awG W6 (.cells #[.slice (some x) n cap, .slice (some ⟨y.block, y.off + 1, none⟩) (m - 1) (mc - 1)] 22)) (dwG (W6.alloc (.cells #[.slice (some x) n cap, .slice (some ⟨y.block, y.off + 1, none⟩) (m - 1) (mc - 1)] 22)))
  have HD2 := Hid.mk hd2
  have HCW := Hid.mk (HCO.out W6.heap.size (W6.alloc (.cells #[.slice (some x) n cap, .slice (some ⟨y.block, y.off + 1, none⟩) (m - 1) (mc - 1)] 22)).drew (bl2 HB5.out hd2) (cell_kept (dwG _) (cell_of_row _ _ 0 _ _ _ (heap_alloc_new W6 (.cells #[.slice (some x) n cap, .slice (some ⟨y.block, y.off + 1, none⟩) (m - 1) (mc - 1)] 22)))) (cell_kept (dwG _) (cell_of_row _ _ 1 _ _ _ (heap_alloc_new W6 (.cells #[.slice (some x) n cap, .slice (some ⟨y.block, y.off + 1, none⟩) (m - 1) (mc - 1)] 22)))))
  clear hd2
  go_region_held3 (fun W => W.cell? ⟨w.heap.size, 1, none⟩ = some (.slice (some x) n cap)) (with_reducible first | exact HK.out _ (dwG _) | exact HK.out _ HD2.out | exact HK.out _ HB7.out) (first
    | (go_at_call 24; with_reducible refine HCW.out.mono ?_; rintro e w7 ⟨g7, c7, rfl, hg7, hY7, hb7⟩
       have HB7 := Hid.mk (bl2 HD2.out hb7)
       have HY7 := Hid.mk hY7
       have HG7 := Hid.mk (Nat.le_trans HD2.out.size hg7)
       clear hb7 hY7 hg7))
  have HB5 := Hid.mk (bl2 HB5.out HB7.out)
  have HR5 := Hid.mk (HR5.out.kept HB7.out)
  have HX5 := Hid.mk (HX5.out.kept HB7.out)
  have HW5 := Hid.mk (HW5.out.kept HB7.out)
  have HE1 := Hid.mk (isBytes_below HE1.out HB7.out)
  have HE2 := Hid.mk (isBytes_below HE2.out HB7.out)
  have HE3 := Hid.mk (isBytes_below HE3.out HB7.out)
  clear k0 k1 k2 k3 k4 i3 j3 d0
  obtain ⟨v0, v1, v2, v3, v4⟩ := HW5.out.cells
  have HSS := Hid.mk (sameGetter_true o1 none n1 0 e1 0 [] 0 0 block 0 _ HE1.out ⟨rfl, Nat.le_refl _, Nat.zero_le _, fun _ => rfl, fun y hy => by cases hy⟩)
  have HSB := Hid.mk (show IsBytes w7 none 0 0 [] from ⟨rfl, Nat.le_refl _, Nat.zero_le _, fun _ => rfl, fun y hy => by cases hy⟩)
  have HAB := Hid.mk HY7.out
  unfold gtV at HSS
  obtain ⟨x0, x1, x2, x3, x4⟩ := HX5.out.cells
  go_wp2_with fail
  refine HSS.out.mono ?_
  rintro e w7 ⟨rfl, hb7⟩
  have HB7 := Hid.mk (bl2 HB5.out hb7)
  have HQ2 := Hid.mk (equal_is (isBytes_below HE2.out hb7) (isBytes_below HSB.out hb7))
  have HA7 := Hid.mk (isBytes_below HAB.out hb7)
  have HE7 := Hid.mk (isBytes_below HE3.out hb7)
  clear hb7 HSS x0 x1 x2 x3 x4 HB5
  go_wp2_with fail
  refine HQ2.out.mono ?_
  rintro e w8 ⟨rfl, hb8⟩
  have HB8 := Hid.mk (bl2 HB7.out hb8)
  have HQ3 := Hid.mk (equal_is (isBytes_below HE7.out hb8) (isBytes_below HA7.out hb8))
  clear hb8 HB7 HQ2 HA7 HE7
  go_wp2_with fail
  refine HQ3.out.mono ?_
  rintro e w9 ⟨rfl, hb9⟩
  have HB9 := Hid.mk (bl2 HB8.out hb9)
  clear hb9 HB8 HQ3
  go_wp2_with fail
  go_ret
  exact ⟨by first | rfl | simp, HB9.out⟩
end Bw
end Go.Proofs.Ytljigcmhkjbhjaa
