/- The law PartGet: a first part that is right. -/
import Derived.Test.YtljigcmhkjbhjaaPtCg
import Derived.Test.YtljigcmhkjbhjaaPtConc
import Derived.Test.YtljigcmhkjbhjaaPtLed
import Derived.RegionTactic
import Derived.BigRegion
namespace Go.Proofs.Ytljigcmhkjbhjaa
open Go.ChangeShapes Go.WideShapes Go.ChangeAt Go.RowKit
namespace Bw
open Bm
set_option linter.unusedVariables false
set_option maxHeartbeats 8000000 in
set_option maxRecDepth 100000 in
theorem pget_first_ok (want : Int) (a : Option Addr) (n cap : Nat) (next : Int) (bl : Nat) (left : Int) (y : Addr) (m mc : Nat) (dt p : List UInt8) (w : World) (hG : IsBytes w a n cap dt) (hP : IsBytes w (some y) m mc p) (S : Nat) (hX : getX want next (bl : Int) left dt p = ⟨(S : Nat), 1, (bl : Int), (bl : Int), p.drop 2, flowL bl, [], 0⟩) (hE : gtE n want next (bl : Int) left = 0) (c0 : Nat) (hc0 : c0 < 256) (hm1 : 1 ≤ m) (hm8 : m ≤ 8) (hy : w.cell? y = some (.int .u8 (c0 : Int))) (c1 : Nat) (hc1 : c1 < 256) (hy1 : w.cell? ⟨y.block, y.off + 1, none⟩ = some (.int .u8 (c1 : Int))) (hk : 16 ≤ c0 ∧ c0 < 32) (hm : m = 8) (hS : S = (c0 - 16) * 256 + c1) (hs : 8 ≤ S) (hs3 : S ≤ 300) :
    Calls Try.prog 5 #[gtV want a n cap next (bl : Int) left, .slice (some y) m mc] w fun e w' => e = .returned (.bool true) ∧ Below w.heap.size w w' := by
  have hB0 := awG w (gtC want a n cap next (bl : Int) left)
  have HGT := Hid.mk (get_any want a n cap next (bl : Int) left (some y) m mc dt p _ (isBytes_below hG hB0) (isBytes_below hP hB0))
  rw [hX] at HGT
  have HCL := Hid.mk (fun W => lcheckGetter_any a n cap want next (bl : Int) left W (Nat.le_trans hG.2.1 hG.2.2.1))
  have HCG := Hid.mk (fun W => checkGetter_any a n cap want next (bl : Int) left W (Nat.le_trans hG.2.1 hG.2.2.1))
  have hPT := fun W => parted_any W
  have HR := Hid.mk (Row5.new w 44 (.int .i64 want) (.slice a n cap) (.int .i64 next) (.int .i64 (bl : Int)) (.int .i64 left))
  have HB := Hid.mk hB0
  have HGG := Hid.mk hG
  have HPP := Hid.mk hP
  have hml : (m : Int) ≤ 9223372036854775807 := by have := hP.2.1; have := hP.2.2.1; unfold maxLen at this; omega
  rw [hE] at HCL HCG
  have hbl := (gtE_ok hE).1.2.1
  have hm0 : ((m : Int) == 0) = false := by simp; omega
  have hm8' : ¬ ((8 : Int) < (m : Int)) := by omega
  have hm8i : (m : Int) ≤ 8 := by omega
  have hmp : 0 < m := by omega
  have hmpi : (0 : Int) < (m : Int) := by omega
  have hc0i : (c0 : Int) ≤ 255 := by omega
  have HY0 := Hid.mk hy
  have q1 : ¬ ((c0 : Int) < 16) := by omega
  have q2 : (c0 : Int) < 32 := by omega
  have HY1 := Hid.mk hy1
  have hc1i : (c1 : Int) ≤ 255 := by omega
  obtain ⟨q, hq⟩ : ∃ q, q = c0 - 16 := ⟨_, rfl⟩
  have hqs : (c0 : Int) - 16 = (q : Int) := by omega
  have hqw : IntKind.u8.wrap ((c0 : Int) - 16) = (q : Int) := by rw [hqs, IntKind.wrap_u8]; omega
  have hq15 : (q : Int) ≤ 15 := by omega
  have hSs : (q : Int) * 256 + (c1 : Int) = (S : Int) := by omega
  have hSb : (S : Int) ≤ 4095 := by omega
  have hm2 : (1 : Int) < (m : Int) := by omega
  have hm2n : 1 < m := by omega
  have q7 : ¬ ((S : Int) < 8) := by omega
  have q8 : ¬ ((300 : Int) < (S : Int)) := by omega
  subst hm
  have hblb : bl ≤ 255 := by have := (gtE_ok hE).1.2.1; omega
  have hbm : (bl : Int) % 256 = (bl : Int) := by omega
  have hbli : (bl : Int) ≤ 255 := by omega
  have hmc8 : 8 ≤ mc := hP.2.1
  have hmc2 : 2 < mc := by omega
  have hmc3 : ¬ mc = 2 := by omega
  have hmc4 : (2 : Int) < (mc : Int) := by omega
  have hcut : IsBytes w (some ⟨y.block, y.off + 2, none⟩) 6 (mc - 2) (p.drop 2) := by
    have h1 := isBytes_cut hP 2 8 (by omega) (Nat.le_refl _)
    rw [List.take_of_length_le (by rw [List.length_drop]; have := hP.1; omega), add2P] at h1
    exact h1
  have HCUT := Hid.mk hcut
  have HYB : Hid (y.block < w.heap.size) := Hid.mk (isBytes_lt hP (by omega))
  generalize p.drop 2 = PD at *
  clear hk hbl hs hs3 hq hS hy1 hc1 hcut
  clear hG hP hE hy hm8 hm1 hc0
  unfold gtC at HB HGT
  unfold gtV at HGT HCL HCG ⊢
  clear hB0 hX
  go_enter Try.func5, Try.ntmps5
  go_wp2_with fail
  refine HGT.out.mono ?_
  rintro e w1 ⟨o1, n1, e1, o2, n2, e2, o3, n3, e3, rfl, hf1, hf2, hf3, -, hb1⟩
  unfold gtV
  skip
  simp only at *
  have hba := awG w1 (.cells #[.int .i64 (S : Int), .slice o1 n1 e1, .int .i64 1, .int .i64 (bl : Int), .int .i64 (bl : Int)] 44)
  have hbb := bl2 hb1 hba
  have HB1 := Hid.mk (bl2 HB.out hbb)
  have HR1 := Hid.mk (HR.out.kept hbb)
  have HX1 := Hid.mk (Row5.new w1 44 (.int .i64 (S : Int)) (.slice o1 n1 e1) (.int .i64 1) (.int .i64 (bl : Int)) (.int .i64 (bl : Int)))
  have HF1 := Hid.mk (isBytes_below hf1.1 hba)
  have HF2 := Hid.mk (isBytes_below hf2.1 hba)
  have HF3 := Hid.mk (isBytes_below hf3.1 hba)
  obtain ⟨a0, a1, a2, a3, a4⟩ := HR1.out.cells
  clear hf1 hf2 hf3 hb1 hba hbb HB HR HGT
  go_wp2_with fail
  generalize w1.alloc (.cells #[.int .i64 (S : Int), .slice o1 n1 e1, .int .i64 1, .int .i64 (bl : Int), .int .i64 (bl : Int)] 44) = W1 at *
  generalize w1.heap.size = s1 at *
  refine (HCL.out _).mono ?_
  rintro e w2 ⟨rfl, hb2⟩
  have HB2 := Hid.mk (bl2 HB1.out hb2)
  have hb2' := hb2
  clear HCL a0 a1 a2 a3 a4
  go_wp2_with fail
  refine (hPT _).mono ?_
  rintro e w3 ⟨rfl, hb3⟩
  have hb3' := bl2 hb2' hb3
  have HB3 := Hid.mk (bl2 HB1.out hb3')
  obtain ⟨a0, a1, a2, a3, a4⟩ := (HR1.out.kept hb3').cells
  clear hb2 hb2' hb3 HB2
  go_wp2_with fail
  refine (HCG.out _).mono ?_
  rintro e w4 ⟨rfl, hb4⟩
  have hb4' := bl2 hb3' hb4
  have HR4 := Hid.mk (HR1.out.kept hb4')
  have HB4 := Hid.mk (bl2 HB1.out hb4')
  clear a0 a1 a2 a3 a4 hb4 hb3' HB3
  have hq5 := awG w4 (.cells #[.int .i64 0, .slice none 0 0, .int .i64 0, .int .i64 (bl : Int), .int .i64 0] 44)
  have hq6 := awG (w4.alloc (.cells #[.int .i64 0, .slice none 0 0, .int .i64 0, .int .i64 (bl : Int), .int .i64 0] 44)) (.cells #[.int .u8 48, .int .u8 (bl : Int), .int .u8 0] 5)
  have hq7 := bl2 hq5 hq6
  have hq8 := bl2 hb4' hq7
  have HB5 := Hid.mk (bl2 HB4.out hq7)
  have HR5 := Hid.mk (HR4.out.kept hq7)
  have HX5 := Hid.mk (HX1.out.kept hq8)
  have HW5 := Hid.mk ((Row5.new w4 44 (.int .i64 0) (.slice none 0 0) (.int .i64 0) (.int .i64 (bl : Int)) (.int .i64 0)).kept hq6)
  have HE1 := Hid.mk (isBytes_below HF1.out hq8)
  have HE2 := Hid.mk (isBytes_below HF2.out hq8)
  have HE3 := Hid.mk (isBytes_below HF3.out hq8)
  have HB4S : Hid (w.heap.size < w4.heap.size) := Hid.mk (by have := HR4.out.lt; omega)
  have HXS : Hid (s1 < w4.heap.size) := Hid.mk (HX1.out.kept hb4').lt
  have HL1 : Hid (∀ x, o1 = some x → 0 < n1 → x.block < w4.heap.size) := Hid.mk (fun x hx h0 => by subst hx; have h1 := isBytes_lt HF1.out h0; have := hb4'.size; omega)
  have HL2 : Hid (∀ x, o2 = some x → 0 < n2 → x.block < w4.heap.size) := Hid.mk (fun x hx h0 => by subst hx; have h1 := isBytes_lt HF2.out h0; have := hb4'.size; omega)
  have HL3 : Hid (∀ x, o3 = some x → 0 < n3 → x.block < w4.heap.size) := Hid.mk (fun x hx h0 => by subst hx; have h1 := isBytes_lt HF3.out h0; have := hb4'.size; omega)
  have HFL : Hid ((w4.alloc (.cells #[.int .i64 0, .slice none 0 0, .int .i64 0, .int .i64 (bl : Int), .int .i64 0] 44)).heap.size = w4.heap.size + 1) := Hid.mk (by simp)
  obtain ⟨-, -, -, i3, -⟩ := HR4.out.cells
  obtain ⟨-, -, -, j3, -⟩ := (HR4.out.kept hq5).cells
  obtain ⟨k0, k1, k2, k3, k4⟩ := HR5.out.cells
  clear hb4' hq5 hq6 hq7 hq8 HR1 HX1 HF1 HF2 HF3 HB1 HB4 HR4 HCG
  have d0 := cell_kept HB5.out HY0.out
  have d1 := cell_kept HB5.out HY1.out
  have hfw := isBytes_made (w4.alloc (.cells #[.int .i64 0, .slice none 0 0, .int .i64 0, .int .i64 (bl : Int), .int .i64 0] 44)) (flowL bl) (by unfold flowL; simp)
  rw [show (cellsOf (flowL bl)).toArray = #[.int .u8 48, .int .u8 (bl : Int), .int .u8 0] by (unfold cellsOf flowL; simp only [List.map]; rw [UInt8.toNat_ofNat_of_lt' (show bl < 256 by omega)]; rfl), HFL.out] at hfw
  have HFW : Hid (IsBytes ((w4.alloc (.cells #[.int .i64 0, .slice none 0 0, .int .i64 0, .int .i64 (bl : Int), .int .i64 0] 44)).alloc (.cells #[.int .u8 48, .int .u8 (bl : Int), .int .u8 0] 5)) (some ⟨w4.heap.size + 1, 0, none⟩) 3 3 (flowL bl)) := Hid.mk hfw
  clear hfw
  go_wp2_with fail
  have HWL := Hid.mk HW5.out.lt
  generalize ((w4.alloc (.cells #[.int .i64 0, .slice none 0 0, .int .i64 0, .int .i64 (bl : Int), .int .i64 0] 44)).alloc (.cells #[.int .u8 48, .int .u8 (bl : Int), .int .u8 0] 5)) = W5 at *
  generalize w4.heap.size = s4 at *
  go_quiet (fail)
  have hbq : Below W5.heap.size W5 (W5.drewN nq) := drP (Below.refl _ _) nq
  have HB5 := Hid.mk (bl2 HB5.out hbq)
  have HR5 := Hid.mk (HR5.out.kept hbq)
  have HX5 := Hid.mk (HX5.out.kept hbq)
  have HW5 := Hid.mk (HW5.out.kept hbq)
  have HE1 := Hid.mk (isBytes_below HE1.out hbq)
  have HE2 := Hid.mk (isBytes_below HE2.out hbq)
  have HE3 := Hid.mk (isBytes_below HE3.out hbq)
  have HFW := Hid.mk (isBytes_below HFW.out hbq)
  have HWS : Hid (s4 < W5.heap.size) := HWL
  clear d0 d1 k0 k1 k2 k3 k4 i3 j3
  generalize W5.drewN nq = W6 at *
  have d0 := cell_kept HB5.out HY0.out
  have d1 := cell_kept HB5.out HY1.out
  obtain ⟨k0, k1, k2, k3, k4⟩ := HR5.out.cells
  have i3 := k3
  have j3 := k3
  have HWW := Hid.mk (HB4S.out)
  go_wp2_with fail
  have hne4 : w.heap.size ≠ s4 := by have := HWW.out; omega
  obtain ⟨⟨z0, z1, z2, z3, z4⟩, ⟨y0, y1, y2, y3, y4⟩, -, -, -, -, hSX⟩ := HW5.out.ready (.int .i64 (S : Int)) (.slice (some ⟨y.block, y.off + 2, none⟩) 6 (mc - 2)) (.int .i64 1) (.int .i64 (bl : Int)) (.int .i64 (bl : Int))
  have hdw := dwG (set5 W6 s4 (.int .i64 (S : Int)) (.slice (some ⟨y.block, y.off + 2, none⟩) 6 (mc - 2)) (.int .i64 1) (.int .i64 (bl : Int)) (.int .i64 (bl : Int)))
  have HW5 := Hid.mk (Row5.kept hSX hdw)
  have HB5 := Hid.mk (bl2 (set5_below HB5.out (show w.heap.size ≤ s4 by have := HWW.out; omega) (.int .i64 (S : Int)) (.slice (some ⟨y.block, y.off + 2, none⟩) 6 (mc - 2)) (.int .i64 1) (.int .i64 (bl : Int)) (.int .i64 (bl : Int))) hdw)
  have HX5 := Hid.mk (Row5.kept (show Row5 (set5 W6 s4 (.int .i64 (S : Int)) (.slice (some ⟨y.block, y.off + 2, none⟩) 6 (mc - 2)) (.int .i64 1) (.int .i64 (bl : Int)) (.int .i64 (bl : Int))) _ _ _ _ _ _ _ from HX5.out.far5 (show s1 ≠ s4 by have := HXS.out; omega) (.int .i64 (S : Int)) (.slice (some ⟨y.block, y.off + 2, none⟩) 6 (mc - 2)) (.int .i64 1) (.int .i64 (bl : Int)) (.int .i64 (bl : Int))) hdw)
  have HE1 := Hid.mk (isBytes_below (isBytes_pos5 (g := s4) HE1.out (fun h0 x hx => by have := HL1.out x hx h0; omega) (.int .i64 (S : Int)) (.slice (some ⟨y.block, y.off + 2, none⟩) 6 (mc - 2)) (.int .i64 1) (.int .i64 (bl : Int)) (.int .i64 (bl : Int))) hdw)
  have HE2 := Hid.mk (isBytes_below (isBytes_pos5 (g := s4) HE2.out (fun h0 x hx => by have := HL2.out x hx h0; omega) (.int .i64 (S : Int)) (.slice (some ⟨y.block, y.off + 2, none⟩) 6 (mc - 2)) (.int .i64 1) (.int .i64 (bl : Int)) (.int .i64 (bl : Int))) hdw)
  have HE3 := Hid.mk (isBytes_below (isBytes_pos5 (g := s4) HE3.out (fun h0 x hx => by have := HL3.out x hx h0; omega) (.int .i64 (S : Int)) (.slice (some ⟨y.block, y.off + 2, none⟩) 6 (mc - 2)) (.int .i64 1) (.int .i64 (bl : Int)) (.int .i64 (bl : Int))) hdw)
  have HFW := Hid.mk (isBytes_below (isBytes_set5 HFW.out (show s4 + 1 ≠ s4 by omega) (.int .i64 (S : Int)) (.slice (some ⟨y.block, y.off + 2, none⟩) 6 (mc - 2)) (.int .i64 1) (.int .i64 (bl : Int)) (.int .i64 (bl : Int))) hdw)
  clear hSX k0 k1 k2 k4 i3 j3 d0 d1 hdw hne4
  go_region
  unfold set5 at HW5 HB5 HX5 HE1 HE2 HE3 HFW
  obtain ⟨v0, v1, v2, v3, v4⟩ := HW5.out.cells
  have HSS := Hid.mk (sameGetter_true o1 (some ⟨y.block, y.off + 2, none⟩) n1 6 e1 (mc - 2) PD (S : Int) 1 (bl : Int) (bl : Int) _ HE1.out (isBytes_below HCUT.out HB5.out))
  have HSB := Hid.mk HFW.out
  have HAB := Hid.mk (show IsBytes (World.drew (((((W6.setCell ⟨s4, 0, none⟩ (.int .i64 (S : Int))).setCell ⟨s4, 1, none⟩ (.slice (some ⟨y.block, y.off + 2, none⟩) 6 (mc - 2))).setCell ⟨s4, 2, none⟩ (.int .i64 1)).setCell ⟨s4, 3, none⟩ (.int .i64 (bl : Int))).setCell ⟨s4, 4, none⟩ (.int .i64 (bl : Int)))) none 0 0 [] from ⟨rfl, Nat.le_refl _, Nat.zero_le _, fun _ => rfl, fun y hy => by cases hy⟩)
  unfold gtV at HSS
  obtain ⟨x0, x1, x2, x3, x4⟩ := HX5.out.cells
  go_wp2_with fail
  refine HSS.out.mono ?_
  rintro e w7 ⟨rfl, hb7⟩
  have HB7 := Hid.mk (bl2 HB5.out hb7)
  have HQ2 := Hid.mk (equal_is (isBytes_below HE2.out hb7) (isBytes_below HSB.out hb7))
  have HA7 := Hid.mk (isBytes_below HAB.out hb7)
  have HE7 := Hid.mk (isBytes_below HE3.out hb7)
  clear hb7 HSS x0 x1 x2 x3 x4 HB5
  go_wp2_with fail
  refine HQ2.out.mono ?_
  rintro e w8 ⟨rfl, hb8⟩
  have HB8 := Hid.mk (bl2 HB7.out hb8)
  have HQ3 := Hid.mk (equal_is (isBytes_below HE7.out hb8) (isBytes_below HA7.out hb8))
  clear hb8 HB7 HQ2 HA7 HE7
  go_wp2_with fail
  refine HQ3.out.mono ?_
  rintro e w9 ⟨rfl, hb9⟩
  have HB9 := Hid.mk (bl2 HB8.out hb9)
  clear hb9 HB8 HQ3
  go_wp2_with fail
  go_ret
  exact ⟨by first | rfl | simp, HB9.out⟩
end Bw
end Go.Proofs.Ytljigcmhkjbhjaa
