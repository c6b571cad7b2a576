/- The law PartGet: errors of first and next parts. -/
import Derived.Test.YtljigcmhkjbhjaaPtCg
import Derived.Test.YtljigcmhkjbhjaaPtConc
import Derived.Test.YtljigcmhkjbhjaaPtLed
namespace Go.Proofs.Ytljigcmhkjbhjaa
open Go.ChangeShapes Go.WideShapes Go.ChangeAt Go.RowKit
namespace Bw
open Bm
set_option linter.unusedVariables false
set_option maxHeartbeats 8000000 in
set_option maxRecDepth 100000 in
theorem pget_first_one (want : Int) (a : Option Addr) (n cap : Nat) (next block left : Int) (y : Addr) (m mc : Nat) (dt p : List UInt8) (w : World) (hG : IsBytes w a n cap dt) (hP : IsBytes w (some y) m mc p) (hX : getX want next block left dt p = badX 4) (hE : gtE n want next block left = 0) (c0 : Nat) (hc0 : c0 < 256) (hm1 : 1 ≤ m) (hm8 : m ≤ 8) (hy : w.cell? y = some (.int .u8 (c0 : Int))) (hk : 16 ≤ c0 ∧ c0 < 32) (hm : m = 1) :
    Calls Try.prog 5 #[gtV want a n cap next block left, .slice (some y) m mc] w fun e w' => e = .returned (.bool true) ∧ Below w.heap.size w w' := by
  have hB0 := awG w (gtC want a n cap next block left)
  have HGT := Hid.mk (get_any want a n cap next block left (some y) m mc dt p _ (isBytes_below hG hB0) (isBytes_below hP hB0))
  rw [hX] at HGT
  have HCL := Hid.mk (fun W => lcheckGetter_any a n cap want next block left W (Nat.le_trans hG.2.1 hG.2.2.1))
  have HCG := Hid.mk (fun W => checkGetter_any a n cap want next block left W (Nat.le_trans hG.2.1 hG.2.2.1))
  have hPT := fun W => parted_any W
  have HR := Hid.mk (Row5.new w 44 (.int .i64 want) (.slice a n cap) (.int .i64 next) (.int .i64 block) (.int .i64 left))
  have HB := Hid.mk hB0
  have HGG := Hid.mk hG
  have HPP := Hid.mk hP
  have hml : (m : Int) ≤ 9223372036854775807 := by have := hP.2.1; have := hP.2.2.1; unfold maxLen at this; omega
  rw [hE] at HCL HCG
  have hbl := (gtE_ok hE).1.2.1
  have hm0 : ((m : Int) == 0) = false := by simp; omega
  have hm8' : ¬ ((8 : Int) < (m : Int)) := by omega
  have hm8i : (m : Int) ≤ 8 := by omega
  have hmp : 0 < m := by omega
  have hmpi : (0 : Int) < (m : Int) := by omega
  have hc0i : (c0 : Int) ≤ 255 := by omega
  have HY0 := Hid.mk hy
  have q1 : ¬ ((c0 : Int) < 16) := by omega
  have q2 : (c0 : Int) < 32 := by omega
  subst hm
  clear hk hbl
  clear hG hP hE hy hm8 hm1 hc0
  unfold gtC at HB HGT
  unfold gtV at HGT HCL HCG ⊢
  clear hB0 hX
  go_enter Try.func5, Try.ntmps5
  go_wp2_with fail
  refine HGT.out.mono ?_
  rintro e w1 ⟨o1, n1, e1, o2, n2, e2, o3, n3, e3, rfl, hf1, hf2, hf3, -, hb1⟩
  unfold gtV
  unfold badX at *
  simp only at *
  have hba := awG w1 (.cells #[.int .i64 0, .slice o1 n1 e1, .int .i64 0, .int .i64 0, .int .i64 0] 44)
  have hbb := bl2 hb1 hba
  have HB1 := Hid.mk (bl2 HB.out hbb)
  have HR1 := Hid.mk (HR.out.kept hbb)
  have HX1 := Hid.mk (Row5.new w1 44 (.int .i64 0) (.slice o1 n1 e1) (.int .i64 0) (.int .i64 0) (.int .i64 0))
  have HF1 := Hid.mk (isBytes_below hf1.1 hba)
  have HF2 := Hid.mk (isBytes_below hf2.1 hba)
  have HF3 := Hid.mk (isBytes_below hf3.1 hba)
  obtain ⟨a0, a1, a2, a3, a4⟩ := HR1.out.cells
  clear hf1 hf2 hf3 hb1 hba hbb HB HR HGT
  go_wp2_with fail
  generalize w1.alloc (.cells #[.int .i64 0, .slice o1 n1 e1, .int .i64 0, .int .i64 0, .int .i64 0] 44) = W1 at *
  generalize w1.heap.size = s1 at *
  refine (HCL.out _).mono ?_
  rintro e w2 ⟨rfl, hb2⟩
  have HB2 := Hid.mk (bl2 HB1.out hb2)
  have hb2' := hb2
  clear HCL a0 a1 a2 a3 a4
  go_wp2_with fail
  refine (hPT _).mono ?_
  rintro e w3 ⟨rfl, hb3⟩
  have hb3' := bl2 hb2' hb3
  have HB3 := Hid.mk (bl2 HB1.out hb3')
  obtain ⟨a0, a1, a2, a3, a4⟩ := (HR1.out.kept hb3').cells
  clear hb2 hb2' hb3 HB2
  go_wp2_with fail
  refine (HCG.out _).mono ?_
  rintro e w4 ⟨rfl, hb4⟩
  have hb4' := bl2 hb3' hb4
  have HR4 := Hid.mk (HR1.out.kept hb4')
  have HB4 := Hid.mk (bl2 HB1.out hb4')
  clear a0 a1 a2 a3 a4 hb4 hb3' HB3
  have hq5 := awG w4 (.cells #[.int .i64 0, .slice none 0 0, .int .i64 0, .int .i64 block, .int .i64 0] 44)
  have hq6 := awG (w4.alloc (.cells #[.int .i64 0, .slice none 0 0, .int .i64 0, .int .i64 block, .int .i64 0] 44)) (.cells #[.int .u8 48, .int .u8 (block % 256), .int .u8 0] 5)
  have hq7 := bl2 hq5 hq6
  have hq8 := bl2 hb4' hq7
  have HB5 := Hid.mk (bl2 HB4.out hq7)
  have HR5 := Hid.mk (HR4.out.kept hq7)
  have HX5 := Hid.mk (HX1.out.kept hq8)
  have HW5 := Hid.mk ((Row5.new w4 44 (.int .i64 0) (.slice none 0 0) (.int .i64 0) (.int .i64 block) (.int .i64 0)).kept hq6)
  have HE1 := Hid.mk (isBytes_below HF1.out hq8)
  have HE2 := Hid.mk (isBytes_below HF2.out hq8)
  have HE3 := Hid.mk (isBytes_below HF3.out hq8)
  have HFL : Hid ((w4.alloc (.cells #[.int .i64 0, .slice none 0 0, .int .i64 0, .int .i64 block, .int .i64 0] 44)).heap.size = w4.heap.size + 1) := Hid.mk (by simp)
  obtain ⟨-, -, -, i3, -⟩ := HR4.out.cells
  obtain ⟨-, -, -, j3, -⟩ := (HR4.out.kept hq5).cells
  obtain ⟨k0, k1, k2, k3, k4⟩ := HR5.out.cells
  clear hb4' hq5 hq6 hq7 hq8 HR1 HX1 HF1 HF2 HF3 HB1 HB4 HR4 HCG
  have d0 := cell_kept HB5.out HY0.out
  have HSS : Hid (∀ W, IsBytes W o1 n1 e1 [] → Calls Try.prog 25 #[gtV 0 o1 n1 e1 0 0 0, gtV 0 none 0 0 0 0 0] W fun e w' => e = .returned (.bool true) ∧ Below W.heap.size W w') := Hid.mk (fun W h => sameGetter_true o1 none n1 0 e1 0 [] 0 0 0 0 W h ⟨rfl, Nat.le_refl _, Nat.zero_le _, fun _ => rfl, fun y hy => by cases hy⟩)
  unfold gtV at HSS
  have hn2 : n2 = 0 := HE2.out.1.symm
  subst hn2
  have hn3 : n3 = 0 := HE3.out.1.symm
  subst hn3
  obtain ⟨x0, x1, x2, x3, x4⟩ := HX5.out.cells
  go_wp2_with fail
  refine (HSS.out _ HE1.out).mono ?_
  rintro e w6 ⟨rfl, hb6⟩
  have HB6 := Hid.mk (bl2 HB5.out hb6)
  clear hb6 HB5 HSS x0 x1 x2 x3 x4 k0 k1 k2 k3 k4 i3 j3
  go_wp2_with fail
  go_ret
  exact ⟨by first | rfl | simp, HB6.out⟩
set_option maxHeartbeats 8000000 in
set_option maxRecDepth 100000 in
theorem pget_first_len (want : Int) (a : Option Addr) (n cap : Nat) (next block left : Int) (y : Addr) (m mc : Nat) (dt p : List UInt8) (w : World) (hG : IsBytes w a n cap dt) (hP : IsBytes w (some y) m mc p) (hX : getX want next block left dt p = badX 4) (hE : gtE n want next block left = 0) (c0 : Nat) (hc0 : c0 < 256) (hm1 : 1 ≤ m) (hm8 : m ≤ 8) (hy : w.cell? y = some (.int .u8 (c0 : Int))) (c1 : Nat) (hc1 : c1 < 256) (hy1 : w.cell? ⟨y.block, y.off + 1, none⟩ = some (.int .u8 (c1 : Int))) (hk : 16 ≤ c0 ∧ c0 < 32) (hm : 2 ≤ m) (hm7 : m ≠ 8) :
    Calls Try.prog 5 #[gtV want a n cap next block left, .slice (some y) m mc] w fun e w' => e = .returned (.bool true) ∧ Below w.heap.size w w' := by
  have hB0 := awG w (gtC want a n cap next block left)
  have HGT := Hid.mk (get_any want a n cap next block left (some y) m mc dt p _ (isBytes_below hG hB0) (isBytes_below hP hB0))
  rw [hX] at HGT
  have HCL := Hid.mk (fun W => lcheckGetter_any a n cap want next block left W (Nat.le_trans hG.2.1 hG.2.2.1))
  have HCG := Hid.mk (fun W => checkGetter_any a n cap want next block left W (Nat.le_trans hG.2.1 hG.2.2.1))
  have hPT := fun W => parted_any W
  have HR := Hid.mk (Row5.new w 44 (.int .i64 want) (.slice a n cap) (.int .i64 next) (.int .i64 block) (.int .i64 left))
  have HB := Hid.mk hB0
  have HGG := Hid.mk hG
  have HPP := Hid.mk hP
  have hml : (m : Int) ≤ 9223372036854775807 := by have := hP.2.1; have := hP.2.2.1; unfold maxLen at this; omega
  rw [hE] at HCL HCG
  have hbl := (gtE_ok hE).1.2.1
  have hm0 : ((m : Int) == 0) = false := by simp; omega
  have hm8' : ¬ ((8 : Int) < (m : Int)) := by omega
  have hm8i : (m : Int) ≤ 8 := by omega
  have hmp : 0 < m := by omega
  have hmpi : (0 : Int) < (m : Int) := by omega
  have hc0i : (c0 : Int) ≤ 255 := by omega
  have HY0 := Hid.mk hy
  have q1 : ¬ ((c0 : Int) < 16) := by omega
  have q2 : (c0 : Int) < 32 := by omega
  have HY1 := Hid.mk hy1
  have hc1i : (c1 : Int) ≤ 255 := by omega
  obtain ⟨q, hq⟩ : ∃ q, q = c0 - 16 := ⟨_, rfl⟩
  have hqs : (c0 : Int) - 16 = (q : Int) := by omega
  have hqw : IntKind.u8.wrap ((c0 : Int) - 16) = (q : Int) := by rw [hqs, IntKind.wrap_u8]; omega
  have hq15 : (q : Int) ≤ 15 := by omega
  obtain ⟨S, hS⟩ : ∃ S, S = q * 256 + c1 := ⟨_, rfl⟩
  have hSs : (q : Int) * 256 + (c1 : Int) = (S : Int) := by omega
  have hSb : (S : Int) ≤ 4095 := by omega
  have hm2 : (1 : Int) < (m : Int) := by omega
  have hm2n : 1 < m := by omega
  have q6 : ((m : Int) != 8) = true := by simp; omega
  clear hk hbl hm hm7 hq hS hy1 hc1
  clear hG hP hE hy hm8 hm1 hc0
  unfold gtC at HB HGT
  unfold gtV at HGT HCL HCG ⊢
  clear hB0 hX
  go_enter Try.func5, Try.ntmps5
  go_wp2_with fail
  refine HGT.out.mono ?_
  rintro e w1 ⟨o1, n1, e1, o2, n2, e2, o3, n3, e3, rfl, hf1, hf2, hf3, -, hb1⟩
  unfold gtV
  unfold badX at *
  simp only at *
  have hba := awG w1 (.cells #[.int .i64 0, .slice o1 n1 e1, .int .i64 0, .int .i64 0, .int .i64 0] 44)
  have hbb := bl2 hb1 hba
  have HB1 := Hid.mk (bl2 HB.out hbb)
  have HR1 := Hid.mk (HR.out.kept hbb)
  have HX1 := Hid.mk (Row5.new w1 44 (.int .i64 0) (.slice o1 n1 e1) (.int .i64 0) (.int .i64 0) (.int .i64 0))
  have HF1 := Hid.mk (isBytes_below hf1.1 hba)
  have HF2 := Hid.mk (isBytes_below hf2.1 hba)
  have HF3 := Hid.mk (isBytes_below hf3.1 hba)
  obtain ⟨a0, a1, a2, a3, a4⟩ := HR1.out.cells
  clear hf1 hf2 hf3 hb1 hba hbb HB HR HGT
  go_wp2_with fail
  generalize w1.alloc (.cells #[.int .i64 0, .slice o1 n1 e1, .int .i64 0, .int .i64 0, .int .i64 0] 44) = W1 at *
  generalize w1.heap.size = s1 at *
  refine (HCL.out _).mono ?_
  rintro e w2 ⟨rfl, hb2⟩
  have HB2 := Hid.mk (bl2 HB1.out hb2)
  have hb2' := hb2
  clear HCL a0 a1 a2 a3 a4
  go_wp2_with fail
  refine (hPT _).mono ?_
  rintro e w3 ⟨rfl, hb3⟩
  have hb3' := bl2 hb2' hb3
  have HB3 := Hid.mk (bl2 HB1.out hb3')
  obtain ⟨a0, a1, a2, a3, a4⟩ := (HR1.out.kept hb3').cells
  clear hb2 hb2' hb3 HB2
  go_wp2_with fail
  refine (HCG.out _).mono ?_
  rintro e w4 ⟨rfl, hb4⟩
  have hb4' := bl2 hb3' hb4
  have HR4 := Hid.mk (HR1.out.kept hb4')
  have HB4 := Hid.mk (bl2 HB1.out hb4')
  clear a0 a1 a2 a3 a4 hb4 hb3' HB3
  have hq5 := awG w4 (.cells #[.int .i64 0, .slice none 0 0, .int .i64 0, .int .i64 block, .int .i64 0] 44)
  have hq6 := awG (w4.alloc (.cells #[.int .i64 0, .slice none 0 0, .int .i64 0, .int .i64 block, .int .i64 0] 44)) (.cells #[.int .u8 48, .int .u8 (block % 256), .int .u8 0] 5)
  have hq7 := bl2 hq5 hq6
  have hq8 := bl2 hb4' hq7
  have HB5 := Hid.mk (bl2 HB4.out hq7)
  have HR5 := Hid.mk (HR4.out.kept hq7)
  have HX5 := Hid.mk (HX1.out.kept hq8)
  have HW5 := Hid.mk ((Row5.new w4 44 (.int .i64 0) (.slice none 0 0) (.int .i64 0) (.int .i64 block) (.int .i64 0)).kept hq6)
  have HE1 := Hid.mk (isBytes_below HF1.out hq8)
  have HE2 := Hid.mk (isBytes_below HF2.out hq8)
  have HE3 := Hid.mk (isBytes_below HF3.out hq8)
  have HFL : Hid ((w4.alloc (.cells #[.int .i64 0, .slice none 0 0, .int .i64 0, .int .i64 block, .int .i64 0] 44)).heap.size = w4.heap.size + 1) := Hid.mk (by simp)
  obtain ⟨-, -, -, i3, -⟩ := HR4.out.cells
  obtain ⟨-, -, -, j3, -⟩ := (HR4.out.kept hq5).cells
  obtain ⟨k0, k1, k2, k3, k4⟩ := HR5.out.cells
  clear hb4' hq5 hq6 hq7 hq8 HR1 HX1 HF1 HF2 HF3 HB1 HB4 HR4 HCG
  have d0 := cell_kept HB5.out HY0.out
  have d1 := cell_kept HB5.out HY1.out
  go_wp2_with fail
  generalize ((w4.alloc (.cells #[.int .i64 0, .slice none 0 0, .int .i64 0, .int .i64 block, .int .i64 0] 44)).alloc (.cells #[.int .u8 48, .int .u8 (block % 256), .int .u8 0] 5)) = W5 at *
  generalize w4.heap.size = s4 at *
  go_quiet (fail)
  have hbq : Below W5.heap.size W5 (W5.drewN nq) := drP (Below.refl _ _) nq
  have HB5 := Hid.mk (bl2 HB5.out hbq)
  have HR5 := Hid.mk (HR5.out.kept hbq)
  have HX5 := Hid.mk (HX5.out.kept hbq)
  have HW5 := Hid.mk (HW5.out.kept hbq)
  have HE1 := Hid.mk (isBytes_below HE1.out hbq)
  have HE2 := Hid.mk (isBytes_below HE2.out hbq)
  have HE3 := Hid.mk (isBytes_below HE3.out hbq)
  clear d0 d1 k0 k1 k2 k3 k4 i3 j3
  generalize W5.drewN nq = W6 at *
  have d0 := cell_kept HB5.out HY0.out
  have d1 := cell_kept HB5.out HY1.out
  obtain ⟨k0, k1, k2, k3, k4⟩ := HR5.out.cells
  have i3 := k3
  have j3 := k3
  have HSS : Hid (∀ W, IsBytes W o1 n1 e1 [] → Calls Try.prog 25 #[gtV 0 o1 n1 e1 0 0 0, gtV 0 none 0 0 0 0 0] W fun e w' => e = .returned (.bool true) ∧ Below W.heap.size W w') := Hid.mk (fun W h => sameGetter_true o1 none n1 0 e1 0 [] 0 0 0 0 W h ⟨rfl, Nat.le_refl _, Nat.zero_le _, fun _ => rfl, fun y hy => by cases hy⟩)
  unfold gtV at HSS
  have hn2 : n2 = 0 := HE2.out.1.symm
  subst hn2
  have hn3 : n3 = 0 := HE3.out.1.symm
  subst hn3
  obtain ⟨x0, x1, x2, x3, x4⟩ := HX5.out.cells
  go_wp2_with fail
  refine (HSS.out _ HE1.out).mono ?_
  rintro e w6 ⟨rfl, hb6⟩
  have HB6 := Hid.mk (bl2 HB5.out hb6)
  clear hb6 HB5 HSS x0 x1 x2 x3 x4 k0 k1 k2 k3 k4 i3 j3
  go_wp2_with fail
  go_ret
  exact ⟨by first | rfl | simp, HB6.out⟩
set_option maxHeartbeats 8000000 in
set_option maxRecDepth 100000 in
theorem pget_first_few (want : Int) (a : Option Addr) (n cap : Nat) (next block left : Int) (y : Addr) (m mc : Nat) (dt p : List UInt8) (w : World) (hG : IsBytes w a n cap dt) (hP : IsBytes w (some y) m mc p) (hX : getX want next block left dt p = badX 4) (hE : gtE n want next block left = 0) (c0 : Nat) (hc0 : c0 < 256) (hm1 : 1 ≤ m) (hm8 : m ≤ 8) (hy : w.cell? y = some (.int .u8 (c0 : Int))) (c1 : Nat) (hc1 : c1 < 256) (hy1 : w.cell? ⟨y.block, y.off + 1, none⟩ = some (.int .u8 (c1 : Int))) (hk : 16 ≤ c0 ∧ c0 < 32) (hm : m = 8) (hs : (c0 - 16) * 256 + c1 < 8) :
    Calls Try.prog 5 #[gtV want a n cap next block left, .slice (some y) m mc] w fun e w' => e = .returned (.bool true) ∧ Below w.heap.size w w' := by
  have hB0 := awG w (gtC want a n cap next block left)
  have HGT := Hid.mk (get_any want a n cap next block left (some y) m mc dt p _ (isBytes_below hG hB0) (isBytes_below hP hB0))
  rw [hX] at HGT
  have HCL := Hid.mk (fun W => lcheckGetter_any a n cap want next block left W (Nat.le_trans hG.2.1 hG.2.2.1))
  have HCG := Hid.mk (fun W => checkGetter_any a n cap want next block left W (Nat.le_trans hG.2.1 hG.2.2.1))
  have hPT := fun W => parted_any W
  have HR := Hid.mk (Row5.new w 44 (.int .i64 want) (.slice a n cap) (.int .i64 next) (.int .i64 block) (.int .i64 left))
  have HB := Hid.mk hB0
  have HGG := Hid.mk hG
  have HPP := Hid.mk hP
  have hml : (m : Int) ≤ 9223372036854775807 := by have := hP.2.1; have := hP.2.2.1; unfold maxLen at this; omega
  rw [hE] at HCL HCG
  have hbl := (gtE_ok hE).1.2.1
  have hm0 : ((m : Int) == 0) = false := by simp; omega
  have hm8' : ¬ ((8 : Int) < (m : Int)) := by omega
  have hm8i : (m : Int) ≤ 8 := by omega
  have hmp : 0 < m := by omega
  have hmpi : (0 : Int) < (m : Int) := by omega
  have hc0i : (c0 : Int) ≤ 255 := by omega
  have HY0 := Hid.mk hy
  have q1 : ¬ ((c0 : Int) < 16) := by omega
  have q2 : (c0 : Int) < 32 := by omega
  have HY1 := Hid.mk hy1
  have hc1i : (c1 : Int) ≤ 255 := by omega
  obtain ⟨q, hq⟩ : ∃ q, q = c0 - 16 := ⟨_, rfl⟩
  have hqs : (c0 : Int) - 16 = (q : Int) := by omega
  have hqw : IntKind.u8.wrap ((c0 : Int) - 16) = (q : Int) := by rw [hqs, IntKind.wrap_u8]; omega
  have hq15 : (q : Int) ≤ 15 := by omega
  obtain ⟨S, hS⟩ : ∃ S, S = q * 256 + c1 := ⟨_, rfl⟩
  have hSs : (q : Int) * 256 + (c1 : Int) = (S : Int) := by omega
  have hSb : (S : Int) ≤ 4095 := by omega
  have hm2 : (1 : Int) < (m : Int) := by omega
  have hm2n : 1 < m := by omega
  have q7 : (S : Int) < 8 := by omega
  subst hm
  clear hk hbl hs hq hS hy1 hc1
  clear hG hP hE hy hm8 hm1 hc0
  unfold gtC at HB HGT
  unfold gtV at HGT HCL HCG ⊢
  clear hB0 hX
  go_enter Try.func5, Try.ntmps5
  go_wp2_with fail
  refine HGT.out.mono ?_
  rintro e w1 ⟨o1, n1, e1, o2, n2, e2, o3, n3, e3, rfl, hf1, hf2, hf3, -, hb1⟩
  unfold gtV
  unfold badX at *
  simp only at *
  have hba := awG w1 (.cells #[.int .i64 0, .slice o1 n1 e1, .int .i64 0, .int .i64 0, .int .i64 0] 44)
  have hbb := bl2 hb1 hba
  have HB1 := Hid.mk (bl2 HB.out hbb)
  have HR1 := Hid.mk (HR.out.kept hbb)
  have HX1 := Hid.mk (Row5.new w1 44 (.int .i64 0) (.slice o1 n1 e1) (.int .i64 0) (.int .i64 0) (.int .i64 0))
  have HF1 := Hid.mk (isBytes_below hf1.1 hba)
  have HF2 := Hid.mk (isBytes_below hf2.1 hba)
  have HF3 := Hid.mk (isBytes_below hf3.1 hba)
  obtain ⟨a0, a1, a2, a3, a4⟩ := HR1.out.cells
  clear hf1 hf2 hf3 hb1 hba hbb HB HR HGT
  go_wp2_with fail
  generalize w1.alloc (.cells #[.int .i64 0, .slice o1 n1 e1, .int .i64 0, .int .i64 0, .int .i64 0] 44) = W1 at *
  generalize w1.heap.size = s1 at *
  refine (HCL.out _).mono ?_
  rintro e w2 ⟨rfl, hb2⟩
  have HB2 := Hid.mk (bl2 HB1.out hb2)
  have hb2' := hb2
  clear HCL a0 a1 a2 a3 a4
  go_wp2_with fail
  refine (hPT _).mono ?_
  rintro e w3 ⟨rfl, hb3⟩
  have hb3' := bl2 hb2' hb3
  have HB3 := Hid.mk (bl2 HB1.out hb3')
  obtain ⟨a0, a1, a2, a3, a4⟩ := (HR1.out.kept hb3').cells
  clear hb2 hb2' hb3 HB2
  go_wp2_with fail
  refine (HCG.out _).mono ?_
  rintro e w4 ⟨rfl, hb4⟩
  have hb4' := bl2 hb3' hb4
  have HR4 := Hid.mk (HR1.out.kept hb4')
  have HB4 := Hid.mk (bl2 HB1.out hb4')
  clear a0 a1 a2 a3 a4 hb4 hb3' HB3
  have hq5 := awG w4 (.cells #[.int .i64 0, .slice none 0 0, .int .i64 0, .int .i64 block, .int .i64 0] 44)
  have hq6 := awG (w4.alloc (.cells #[.int .i64 0, .slice none 0 0, .int .i64 0, .int .i64 block, .int .i64 0] 44)) (.cells #[.int .u8 48, .int .u8 (block % 256), .int .u8 0] 5)
  have hq7 := bl2 hq5 hq6
  have hq8 := bl2 hb4' hq7
  have HB5 := Hid.mk (bl2 HB4.out hq7)
  have HR5 := Hid.mk (HR4.out.kept hq7)
  have HX5 := Hid.mk (HX1.out.kept hq8)
  have HW5 := Hid.mk ((Row5.new w4 44 (.int .i64 0) (.slice none 0 0) (.int .i64 0) (.int .i64 block) (.int .i64 0)).kept hq6)
  have HE1 := Hid.mk (isBytes_below HF1.out hq8)
  have HE2 := Hid.mk (isBytes_below HF2.out hq8)
  have HE3 := Hid.mk (isBytes_below HF3.out hq8)
  have HFL : Hid ((w4.alloc (.cells #[.int .i64 0, .slice none 0 0, .int .i64 0, .int .i64 block, .int .i64 0] 44)).heap.size = w4.heap.size + 1) := Hid.mk (by simp)
  obtain ⟨-, -, -, i3, -⟩ := HR4.out.cells
  obtain ⟨-, -, -, j3, -⟩ := (HR4.out.kept hq5).cells
  obtain ⟨k0, k1, k2, k3, k4⟩ := HR5.out.cells
  clear hb4' hq5 hq6 hq7 hq8 HR1 HX1 HF1 HF2 HF3 HB1 HB4 HR4 HCG
  have d0 := cell_kept HB5.out HY0.out
  have d1 := cell_kept HB5.out HY1.out
  go_wp2_with fail
  generalize ((w4.alloc (.cells #[.int .i64 0, .slice none 0 0, .int .i64 0, .int .i64 block, .int .i64 0] 44)).alloc (.cells #[.int .u8 48, .int .u8 (block % 256), .int .u8 0] 5)) = W5 at *
  generalize w4.heap.size = s4 at *
  go_quiet (fail)
  have hbq : Below W5.heap.size W5 (W5.drewN nq) := drP (Below.refl _ _) nq
  have HB5 := Hid.mk (bl2 HB5.out hbq)
  have HR5 := Hid.mk (HR5.out.kept hbq)
  have HX5 := Hid.mk (HX5.out.kept hbq)
  have HW5 := Hid.mk (HW5.out.kept hbq)
  have HE1 := Hid.mk (isBytes_below HE1.out hbq)
  have HE2 := Hid.mk (isBytes_below HE2.out hbq)
  have HE3 := Hid.mk (isBytes_below HE3.out hbq)
  clear d0 d1 k0 k1 k2 k3 k4 i3 j3
  generalize W5.drewN nq = W6 at *
  have d0 := cell_kept HB5.out HY0.out
  have d1 := cell_kept HB5.out HY1.out
  obtain ⟨k0, k1, k2, k3, k4⟩ := HR5.out.cells
  have i3 := k3
  have j3 := k3
  have HSS : Hid (∀ W, IsBytes W o1 n1 e1 [] → Calls Try.prog 25 #[gtV 0 o1 n1 e1 0 0 0, gtV 0 none 0 0 0 0 0] W fun e w' => e = .returned (.bool true) ∧ Below W.heap.size W w') := Hid.mk (fun W h => sameGetter_true o1 none n1 0 e1 0 [] 0 0 0 0 W h ⟨rfl, Nat.le_refl _, Nat.zero_le _, fun _ => rfl, fun y hy => by cases hy⟩)
  unfold gtV at HSS
  have hn2 : n2 = 0 := HE2.out.1.symm
  subst hn2
  have hn3 : n3 = 0 := HE3.out.1.symm
  subst hn3
  obtain ⟨x0, x1, x2, x3, x4⟩ := HX5.out.cells
  go_wp2_with fail
  refine (HSS.out _ HE1.out).mono ?_
  rintro e w6 ⟨rfl, hb6⟩
  have HB6 := Hid.mk (bl2 HB5.out hb6)
  clear hb6 HB5 HSS x0 x1 x2 x3 x4 k0 k1 k2 k3 k4 i3 j3
  go_wp2_with fail
  go_ret
  exact ⟨by first | rfl | simp, HB6.out⟩
set_option maxHeartbeats 8000000 in
set_option maxRecDepth 100000 in
theorem pget_late (a : Option Addr) (n cap : Nat) (next block left : Int) (y : Addr) (m mc : Nat) (dt p : List UInt8) (w : World) (hG : IsBytes w a n cap dt) (hP : IsBytes w (some y) m mc p) (hX : getX 0 next block left dt p = badX 12) (hE : gtE n 0 next block left = 0) (c0 : Nat) (hc0 : c0 < 256) (hm1 : 1 ≤ m) (hm8 : m ≤ 8) (hy : w.cell? y = some (.int .u8 (c0 : Int))) (hk : 32 ≤ c0 ∧ c0 < 48) :
    Calls Try.prog 5 #[gtV 0 a n cap next block left, .slice (some y) m mc] w fun e w' => e = .returned (.bool true) ∧ Below w.heap.size w w' := by
  have hB0 := awG w (gtC 0 a n cap next block left)
  have HGT := Hid.mk (get_any 0 a n cap next block left (some y) m mc dt p _ (isBytes_below hG hB0) (isBytes_below hP hB0))
  rw [hX] at HGT
  have HCL := Hid.mk (fun W => lcheckGetter_any a n cap 0 next block left W (Nat.le_trans hG.2.1 hG.2.2.1))
  have HCG := Hid.mk (fun W => checkGetter_any a n cap 0 next block left W (Nat.le_trans hG.2.1 hG.2.2.1))
  have hPT := fun W => parted_any W
  have HR := Hid.mk (Row5.new w 44 (.int .i64 0) (.slice a n cap) (.int .i64 next) (.int .i64 block) (.int .i64 left))
  have HB := Hid.mk hB0
  have HGG := Hid.mk hG
  have HPP := Hid.mk hP
  have hml : (m : Int) ≤ 9223372036854775807 := by have := hP.2.1; have := hP.2.2.1; unfold maxLen at this; omega
  rw [hE] at HCL HCG
  have hbl := (gtE_ok hE).1.2.1
  have hm0 : ((m : Int) == 0) = false := by simp; omega
  have hm8' : ¬ ((8 : Int) < (m : Int)) := by omega
  have hm8i : (m : Int) ≤ 8 := by omega
  have hmp : 0 < m := by omega
  have hmpi : (0 : Int) < (m : Int) := by omega
  have hc0i : (c0 : Int) ≤ 255 := by omega
  have HY0 := Hid.mk hy
  have q1 : ¬ ((c0 : Int) < 16) := by omega
  have q2 : ¬ ((c0 : Int) < 32) := by omega
  have q3 : (c0 : Int) < 48 := by omega
  clear hk hbl
  clear hG hP hE hy hm8 hm1 hc0
  unfold gtC at HB HGT
  unfold gtV at HGT HCL HCG ⊢
  clear hB0 hX
  go_enter Try.func5, Try.ntmps5
  go_wp2_with fail
  refine HGT.out.mono ?_
  rintro e w1 ⟨o1, n1, e1, o2, n2, e2, o3, n3, e3, rfl, hf1, hf2, hf3, -, hb1⟩
  unfold gtV
  unfold badX at *
  simp only at *
  have hba := awG w1 (.cells #[.int .i64 0, .slice o1 n1 e1, .int .i64 0, .int .i64 0, .int .i64 0] 44)
  have hbb := bl2 hb1 hba
  have HB1 := Hid.mk (bl2 HB.out hbb)
  have HR1 := Hid.mk (HR.out.kept hbb)
  have HX1 := Hid.mk (Row5.new w1 44 (.int .i64 0) (.slice o1 n1 e1) (.int .i64 0) (.int .i64 0) (.int .i64 0))
  have HF1 := Hid.mk (isBytes_below hf1.1 hba)
  have HF2 := Hid.mk (isBytes_below hf2.1 hba)
  have HF3 := Hid.mk (isBytes_below hf3.1 hba)
  obtain ⟨a0, a1, a2, a3, a4⟩ := HR1.out.cells
  clear hf1 hf2 hf3 hb1 hba hbb HB HR HGT
  go_wp2_with fail
  generalize w1.alloc (.cells #[.int .i64 0, .slice o1 n1 e1, .int .i64 0, .int .i64 0, .int .i64 0] 44) = W1 at *
  generalize w1.heap.size = s1 at *
  refine (HCL.out _).mono ?_
  rintro e w2 ⟨rfl, hb2⟩
  have HB2 := Hid.mk (bl2 HB1.out hb2)
  have hb2' := hb2
  clear HCL a0 a1 a2 a3 a4
  go_wp2_with fail
  refine (hPT _).mono ?_
  rintro e w3 ⟨rfl, hb3⟩
  have hb3' := bl2 hb2' hb3
  have HB3 := Hid.mk (bl2 HB1.out hb3')
  obtain ⟨a0, a1, a2, a3, a4⟩ := (HR1.out.kept hb3').cells
  clear hb2 hb2' hb3 HB2
  go_wp2_with fail
  refine (HCG.out _).mono ?_
  rintro e w4 ⟨rfl, hb4⟩
  have hb4' := bl2 hb3' hb4
  have HR4 := Hid.mk (HR1.out.kept hb4')
  have HB4 := Hid.mk (bl2 HB1.out hb4')
  clear a0 a1 a2 a3 a4 hb4 hb3' HB3
  have hq5 := awG w4 (.cells #[.int .i64 0, .slice none 0 0, .int .i64 0, .int .i64 block, .int .i64 0] 44)
  have hq6 := awG (w4.alloc (.cells #[.int .i64 0, .slice none 0 0, .int .i64 0, .int .i64 block, .int .i64 0] 44)) (.cells #[.int .u8 48, .int .u8 (block % 256), .int .u8 0] 5)
  have hq7 := bl2 hq5 hq6
  have hq8 := bl2 hb4' hq7
  have HB5 := Hid.mk (bl2 HB4.out hq7)
  have HR5 := Hid.mk (HR4.out.kept hq7)
  have HX5 := Hid.mk (HX1.out.kept hq8)
  have HW5 := Hid.mk ((Row5.new w4 44 (.int .i64 0) (.slice none 0 0) (.int .i64 0) (.int .i64 block) (.int .i64 0)).kept hq6)
  have HE1 := Hid.mk (isBytes_below HF1.out hq8)
  have HE2 := Hid.mk (isBytes_below HF2.out hq8)
  have HE3 := Hid.mk (isBytes_below HF3.out hq8)
  have HFL : Hid ((w4.alloc (.cells #[.int .i64 0, .slice none 0 0, .int .i64 0, .int .i64 block, .int .i64 0] 44)).heap.size = w4.heap.size + 1) := Hid.mk (by simp)
  obtain ⟨-, -, -, i3, -⟩ := HR4.out.cells
  obtain ⟨-, -, -, j3, -⟩ := (HR4.out.kept hq5).cells
  obtain ⟨k0, k1, k2, k3, k4⟩ := HR5.out.cells
  clear hb4' hq5 hq6 hq7 hq8 HR1 HX1 HF1 HF2 HF3 HB1 HB4 HR4 HCG
  have d0 := cell_kept HB5.out HY0.out
  have HSS : Hid (∀ W, IsBytes W o1 n1 e1 [] → Calls Try.prog 25 #[gtV 0 o1 n1 e1 0 0 0, gtV 0 none 0 0 0 0 0] W fun e w' => e = .returned (.bool true) ∧ Below W.heap.size W w') := Hid.mk (fun W h => sameGetter_true o1 none n1 0 e1 0 [] 0 0 0 0 W h ⟨rfl, Nat.le_refl _, Nat.zero_le _, fun _ => rfl, fun y hy => by cases hy⟩)
  unfold gtV at HSS
  have hn2 : n2 = 0 := HE2.out.1.symm
  subst hn2
  have hn3 : n3 = 0 := HE3.out.1.symm
  subst hn3
  obtain ⟨x0, x1, x2, x3, x4⟩ := HX5.out.cells
  go_wp2_with fail
  refine (HSS.out _ HE1.out).mono ?_
  rintro e w6 ⟨rfl, hb6⟩
  have HB6 := Hid.mk (bl2 HB5.out hb6)
  clear hb6 HB5 HSS x0 x1 x2 x3 x4 k0 k1 k2 k3 k4 i3 j3
  go_wp2_with fail
  go_ret
  exact ⟨by first | rfl | simp, HB6.out⟩
set_option maxHeartbeats 8000000 in
set_option maxRecDepth 100000 in
theorem pget_lost (want : Int) (a : Option Addr) (n cap : Nat) (next block left : Int) (y : Addr) (m mc : Nat) (dt p : List UInt8) (w : World) (hG : IsBytes w a n cap dt) (hP : IsBytes w (some y) m mc p) (hX : getX want next block left dt p = badX 14) (hE : gtE n want next block left = 0) (c0 : Nat) (hc0 : c0 < 256) (hm1 : 1 ≤ m) (hm8 : m ≤ 8) (hy : w.cell? y = some (.int .u8 (c0 : Int))) (hk : 32 ≤ c0 ∧ c0 < 48) (hwt : want ≠ 0) (hx : next ≠ ((c0 - 32 : Nat) : Int)) :
    Calls Try.prog 5 #[gtV want a n cap next block left, .slice (some y) m mc] w fun e w' => e = .returned (.bool true) ∧ Below w.heap.size w w' := by
  have hB0 := awG w (gtC want a n cap next block left)
  have HGT := Hid.mk (get_any want a n cap next block left (some y) m mc dt p _ (isBytes_below hG hB0) (isBytes_below hP hB0))
  rw [hX] at HGT
  have HCL := Hid.mk (fun W => lcheckGetter_any a n cap want next block left W (Nat.le_trans hG.2.1 hG.2.2.1))
  have HCG := Hid.mk (fun W => checkGetter_any a n cap want next block left W (Nat.le_trans hG.2.1 hG.2.2.1))
  have hPT := fun W => parted_any W
  have HR := Hid.mk (Row5.new w 44 (.int .i64 want) (.slice a n cap) (.int .i64 next) (.int .i64 block) (.int .i64 left))
  have HB := Hid.mk hB0
  have HGG := Hid.mk hG
  have HPP := Hid.mk hP
  have hml : (m : Int) ≤ 9223372036854775807 := by have := hP.2.1; have := hP.2.2.1; unfold maxLen at this; omega
  rw [hE] at HCL HCG
  have hbl := (gtE_ok hE).1.2.1
  have hm0 : ((m : Int) == 0) = false := by simp; omega
  have hm8' : ¬ ((8 : Int) < (m : Int)) := by omega
  have hm8i : (m : Int) ≤ 8 := by omega
  have hmp : 0 < m := by omega
  have hmpi : (0 : Int) < (m : Int) := by omega
  have hc0i : (c0 : Int) ≤ 255 := by omega
  have HY0 := Hid.mk hy
  have q1 : ¬ ((c0 : Int) < 16) := by omega
  have q2 : ¬ ((c0 : Int) < 32) := by omega
  have q3 : (c0 : Int) < 48 := by omega
  obtain ⟨q, hq⟩ : ∃ q, q = c0 - 32 := ⟨_, rfl⟩
  have hqs : (c0 : Int) - 32 = (q : Int) := by omega
  have hqw : IntKind.u8.wrap ((c0 : Int) - 32) = (q : Int) := by rw [hqs, IntKind.wrap_u8]; omega
  have hq15 : (q : Int) ≤ 15 := by omega
  have hw0 : (want == 0) = false := by simpa using hwt
  have q8 : ((q : Int) != next) = true := by simp; omega
  clear hk hbl hwt hx hq
  clear hG hP hE hy hm8 hm1 hc0
  unfold gtC at HB HGT
  unfold gtV at HGT HCL HCG ⊢
  clear hB0 hX
  go_enter Try.func5, Try.ntmps5
  go_wp2_with fail
  refine HGT.out.mono ?_
  rintro e w1 ⟨o1, n1, e1, o2, n2, e2, o3, n3, e3, rfl, hf1, hf2, hf3, -, hb1⟩
  unfold gtV
  unfold badX at *
  simp only at *
  have hba := awG w1 (.cells #[.int .i64 0, .slice o1 n1 e1, .int .i64 0, .int .i64 0, .int .i64 0] 44)
  have hbb := bl2 hb1 hba
  have HB1 := Hid.mk (bl2 HB.out hbb)
  have HR1 := Hid.mk (HR.out.kept hbb)
  have HX1 := Hid.mk (Row5.new w1 44 (.int .i64 0) (.slice o1 n1 e1) (.int .i64 0) (.int .i64 0) (.int .i64 0))
  have HF1 := Hid.mk (isBytes_below hf1.1 hba)
  have HF2 := Hid.mk (isBytes_below hf2.1 hba)
  have HF3 := Hid.mk (isBytes_below hf3.1 hba)
  obtain ⟨a0, a1, a2, a3, a4⟩ := HR1.out.cells
  clear hf1 hf2 hf3 hb1 hba hbb HB HR HGT
  go_wp2_with fail
  generalize w1.alloc (.cells #[.int .i64 0, .slice o1 n1 e1, .int .i64 0, .int .i64 0, .int .i64 0] 44) = W1 at *
  generalize w1.heap.size = s1 at *
  refine (HCL.out _).mono ?_
  rintro e w2 ⟨rfl, hb2⟩
  have HB2 := Hid.mk (bl2 HB1.out hb2)
  have hb2' := hb2
  clear HCL a0 a1 a2 a3 a4
  go_wp2_with fail
  refine (hPT _).mono ?_
  rintro e w3 ⟨rfl, hb3⟩
  have hb3' := bl2 hb2' hb3
  have HB3 := Hid.mk (bl2 HB1.out hb3')
  obtain ⟨a0, a1, a2, a3, a4⟩ := (HR1.out.kept hb3').cells
  clear hb2 hb2' hb3 HB2
  go_wp2_with fail
  refine (HCG.out _).mono ?_
  rintro e w4 ⟨rfl, hb4⟩
  have hb4' := bl2 hb3' hb4
  have HR4 := Hid.mk (HR1.out.kept hb4')
  have HB4 := Hid.mk (bl2 HB1.out hb4')
  clear a0 a1 a2 a3 a4 hb4 hb3' HB3
  have hq5 := awG w4 (.cells #[.int .i64 0, .slice none 0 0, .int .i64 0, .int .i64 block, .int .i64 0] 44)
  have hq6 := awG (w4.alloc (.cells #[.int .i64 0, .slice none 0 0, .int .i64 0, .int .i64 block, .int .i64 0] 44)) (.cells #[.int .u8 48, .int .u8 (block % 256), .int .u8 0] 5)
  have hq7 := bl2 hq5 hq6
  have hq8 := bl2 hb4' hq7
  have HB5 := Hid.mk (bl2 HB4.out hq7)
  have HR5 := Hid.mk (HR4.out.kept hq7)
  have HX5 := Hid.mk (HX1.out.kept hq8)
  have HW5 := Hid.mk ((Row5.new w4 44 (.int .i64 0) (.slice none 0 0) (.int .i64 0) (.int .i64 block) (.int .i64 0)).kept hq6)
  have HE1 := Hid.mk (isBytes_below HF1.out hq8)
  have HE2 := Hid.mk (isBytes_below HF2.out hq8)
  have HE3 := Hid.mk (isBytes_below HF3.out hq8)
  have HFL : Hid ((w4.alloc (.cells #[.int .i64 0, .slice none 0 0, .int .i64 0, .int .i64 block, .int .i64 0] 44)).heap.size = w4.heap.size + 1) := Hid.mk (by simp)
  obtain ⟨-, -, -, i3, -⟩ := HR4.out.cells
  obtain ⟨-, -, -, j3, -⟩ := (HR4.out.kept hq5).cells
  obtain ⟨k0, k1, k2, k3, k4⟩ := HR5.out.cells
  clear hb4' hq5 hq6 hq7 hq8 HR1 HX1 HF1 HF2 HF3 HB1 HB4 HR4 HCG
  have d0 := cell_kept HB5.out HY0.out
  go_wp2_with fail
  generalize ((w4.alloc (.cells #[.int .i64 0, .slice none 0 0, .int .i64 0, .int .i64 block, .int .i64 0] 44)).alloc (.cells #[.int .u8 48, .int .u8 (block % 256), .int .u8 0] 5)) = W5 at *
  generalize w4.heap.size = s4 at *
  go_quiet (fail)
  have hbq : Below W5.heap.size W5 (W5.drewN nq) := drP (Below.refl _ _) nq
  have HB5 := Hid.mk (bl2 HB5.out hbq)
  have HR5 := Hid.mk (HR5.out.kept hbq)
  have HX5 := Hid.mk (HX5.out.kept hbq)
  have HW5 := Hid.mk (HW5.out.kept hbq)
  have HE1 := Hid.mk (isBytes_below HE1.out hbq)
  have HE2 := Hid.mk (isBytes_below HE2.out hbq)
  have HE3 := Hid.mk (isBytes_below HE3.out hbq)
  clear d0 k0 k1 k2 k3 k4 i3 j3
  generalize W5.drewN nq = W6 at *
  have d0 := cell_kept HB5.out HY0.out
  obtain ⟨k0, k1, k2, k3, k4⟩ := HR5.out.cells
  have i3 := k3
  have j3 := k3
  have HSS : Hid (∀ W, IsBytes W o1 n1 e1 [] → Calls Try.prog 25 #[gtV 0 o1 n1 e1 0 0 0, gtV 0 none 0 0 0 0 0] W fun e w' => e = .returned (.bool true) ∧ Below W.heap.size W w') := Hid.mk (fun W h => sameGetter_true o1 none n1 0 e1 0 [] 0 0 0 0 W h ⟨rfl, Nat.le_refl _, Nat.zero_le _, fun _ => rfl, fun y hy => by cases hy⟩)
  unfold gtV at HSS
  have hn2 : n2 = 0 := HE2.out.1.symm
  subst hn2
  have hn3 : n3 = 0 := HE3.out.1.symm
  subst hn3
  obtain ⟨x0, x1, x2, x3, x4⟩ := HX5.out.cells
  go_wp2_with fail
  refine (HSS.out _ HE1.out).mono ?_
  rintro e w6 ⟨rfl, hb6⟩
  have HB6 := Hid.mk (bl2 HB5.out hb6)
  clear hb6 HB5 HSS x0 x1 x2 x3 x4 k0 k1 k2 k3 k4 i3 j3
  go_wp2_with fail
  go_ret
  exact ⟨by first | rfl | simp, HB6.out⟩
set_option maxHeartbeats 8000000 in
set_option maxRecDepth 100000 in
theorem pget_form (want : Int) (a : Option Addr) (n cap : Nat) (next block left : Int) (y : Addr) (m mc : Nat) (dt p : List UInt8) (w : World) (hG : IsBytes w a n cap dt) (hP : IsBytes w (some y) m mc p) (hX : getX want next block left dt p = badX 4) (hE : gtE n want next block left = 0) (c0 : Nat) (hc0 : c0 < 256) (hm1 : 1 ≤ m) (hm8 : m ≤ 8) (hy : w.cell? y = some (.int .u8 (c0 : Int))) (hk : 32 ≤ c0 ∧ c0 < 48) (hwt : want ≠ 0) (hx : next = ((c0 - 32 : Nat) : Int)) (hf : m ≠ 1 + min (want.toNat - n) 7) :
    Calls Try.prog 5 #[gtV want a n cap next block left, .slice (some y) m mc] w fun e w' => e = .returned (.bool true) ∧ Below w.heap.size w w' := by
  have hB0 := awG w (gtC want a n cap next block left)
  have HGT := Hid.mk (get_any want a n cap next block left (some y) m mc dt p _ (isBytes_below hG hB0) (isBytes_below hP hB0))
  rw [hX] at HGT
  have HCL := Hid.mk (fun W => lcheckGetter_any a n cap want next block left W (Nat.le_trans hG.2.1 hG.2.2.1))
  have HCG := Hid.mk (fun W => checkGetter_any a n cap want next block left W (Nat.le_trans hG.2.1 hG.2.2.1))
  have hPT := fun W => parted_any W
  have HR := Hid.mk (Row5.new w 44 (.int .i64 want) (.slice a n cap) (.int .i64 next) (.int .i64 block) (.int .i64 left))
  have HB := Hid.mk hB0
  have HGG := Hid.mk hG
  have HPP := Hid.mk hP
  have hml : (m : Int) ≤ 9223372036854775807 := by have := hP.2.1; have := hP.2.2.1; unfold maxLen at this; omega
  rw [hE] at HCL HCG
  have hbl := (gtE_ok hE).1.2.1
  have hm0 : ((m : Int) == 0) = false := by simp; omega
  have hm8' : ¬ ((8 : Int) < (m : Int)) := by omega
  have hm8i : (m : Int) ≤ 8 := by omega
  have hmp : 0 < m := by omega
  have hmpi : (0 : Int) < (m : Int) := by omega
  have hc0i : (c0 : Int) ≤ 255 := by omega
  have HY0 := Hid.mk hy
  have q1 : ¬ ((c0 : Int) < 16) := by omega
  have q2 : ¬ ((c0 : Int) < 32) := by omega
  have q3 : (c0 : Int) < 48 := by omega
  obtain ⟨q, hq⟩ : ∃ q, q = c0 - 32 := ⟨_, rfl⟩
  have hqs : (c0 : Int) - 32 = (q : Int) := by omega
  have hqw : IntKind.u8.wrap ((c0 : Int) - 32) = (q : Int) := by rw [hqs, IntKind.wrap_u8]; omega
  have hq15 : (q : Int) ≤ 15 := by omega
  have hw0 : (want == 0) = false := by simpa using hwt
  rw [← hq] at hx
  subst hx
  obtain ⟨wt, rfl⟩ : ∃ wt : Nat, want = (wt : Int) := ⟨want.toNat, by have := (gtE_ok hE).1.1; omega⟩
  obtain ⟨h8, hnw, hbt, hnum, hlb⟩ := gtF_more (gtE_ok hE).2 hwt
  have hw3 := (gtE_ok hE).1.1
  obtain ⟨d, hd⟩ : ∃ d, d = wt - n := ⟨_, rfl⟩
  have hds : (wt : Int) - (n : Int) = (d : Int) := by omega
  have hd3 : (d : Int) ≤ 300 := by omega
  obtain ⟨mn, hmn⟩ : ∃ mn, mn = min d 7 := ⟨_, rfl⟩
  have hmin : (if (d : Int) < (7 : Int) then (d : Int) else (7 : Int)) = (mn : Int) := by split <;> omega
  have hmin2 : min (7 : Int) (d : Int) = (mn : Int) := by omega
  have hmn7 : (mn : Int) ≤ 7 := by omega
  have hwti : (wt : Int) ≤ 300 := by omega
  have hni : (n : Int) ≤ 300 := by omega
  have q9 : ((m : Int) != 1 + (mn : Int)) = true := by simp; simp at hf; omega
  clear hk hbl hwt hf hq hd hmn h8 hnw hbt hnum hlb hw3
  clear hG hP hE hy hm8 hm1 hc0
  unfold gtC at HB HGT
  unfold gtV at HGT HCL HCG ⊢
  clear hB0 hX
  go_enter Try.func5, Try.ntmps5
  go_wp2_with fail
  refine HGT.out.mono ?_
  rintro e w1 ⟨o1, n1, e1, o2, n2, e2, o3, n3, e3, rfl, hf1, hf2, hf3, -, hb1⟩
  unfold gtV
  unfold badX at *
  simp only at *
  have hba := awG w1 (.cells #[.int .i64 0, .slice o1 n1 e1, .int .i64 0, .int .i64 0, .int .i64 0] 44)
  have hbb := bl2 hb1 hba
  have HB1 := Hid.mk (bl2 HB.out hbb)
  have HR1 := Hid.mk (HR.out.kept hbb)
  have HX1 := Hid.mk (Row5.new w1 44 (.int .i64 0) (.slice o1 n1 e1) (.int .i64 0) (.int .i64 0) (.int .i64 0))
  have HF1 := Hid.mk (isBytes_below hf1.1 hba)
  have HF2 := Hid.mk (isBytes_below hf2.1 hba)
  have HF3 := Hid.mk (isBytes_below hf3.1 hba)
  obtain ⟨a0, a1, a2, a3, a4⟩ := HR1.out.cells
  clear hf1 hf2 hf3 hb1 hba hbb HB HR HGT
  go_wp2_with fail
  generalize w1.alloc (.cells #[.int .i64 0, .slice o1 n1 e1, .int .i64 0, .int .i64 0, .int .i64 0] 44) = W1 at *
  generalize w1.heap.size = s1 at *
  refine (HCL.out _).mono ?_
  rintro e w2 ⟨rfl, hb2⟩
  have HB2 := Hid.mk (bl2 HB1.out hb2)
  have hb2' := hb2
  clear HCL a0 a1 a2 a3 a4
  go_wp2_with fail
  refine (hPT _).mono ?_
  rintro e w3 ⟨rfl, hb3⟩
  have hb3' := bl2 hb2' hb3
  have HB3 := Hid.mk (bl2 HB1.out hb3')
  obtain ⟨a0, a1, a2, a3, a4⟩ := (HR1.out.kept hb3').cells
  clear hb2 hb2' hb3 HB2
  go_wp2_with fail
  refine (HCG.out _).mono ?_
  rintro e w4 ⟨rfl, hb4⟩
  have hb4' := bl2 hb3' hb4
  have HR4 := Hid.mk (HR1.out.kept hb4')
  have HB4 := Hid.mk (bl2 HB1.out hb4')
  clear a0 a1 a2 a3 a4 hb4 hb3' HB3
  have hq5 := awG w4 (.cells #[.int .i64 0, .slice none 0 0, .int .i64 0, .int .i64 block, .int .i64 0] 44)
  have hq6 := awG (w4.alloc (.cells #[.int .i64 0, .slice none 0 0, .int .i64 0, .int .i64 block, .int .i64 0] 44)) (.cells #[.int .u8 48, .int .u8 (block % 256), .int .u8 0] 5)
  have hq7 := bl2 hq5 hq6
  have hq8 := bl2 hb4' hq7
  have HB5 := Hid.mk (bl2 HB4.out hq7)
  have HR5 := Hid.mk (HR4.out.kept hq7)
  have HX5 := Hid.mk (HX1.out.kept hq8)
  have HW5 := Hid.mk ((Row5.new w4 44 (.int .i64 0) (.slice none 0 0) (.int .i64 0) (.int .i64 block) (.int .i64 0)).kept hq6)
  have HE1 := Hid.mk (isBytes_below HF1.out hq8)
  have HE2 := Hid.mk (isBytes_below HF2.out hq8)
  have HE3 := Hid.mk (isBytes_below HF3.out hq8)
  have HFL : Hid ((w4.alloc (.cells #[.int .i64 0, .slice none 0 0, .int .i64 0, .int .i64 block, .int .i64 0] 44)).heap.size = w4.heap.size + 1) := Hid.mk (by simp)
  obtain ⟨-, -, -, i3, -⟩ := HR4.out.cells
  obtain ⟨-, -, -, j3, -⟩ := (HR4.out.kept hq5).cells
  obtain ⟨k0, k1, k2, k3, k4⟩ := HR5.out.cells
  clear hb4' hq5 hq6 hq7 hq8 HR1 HX1 HF1 HF2 HF3 HB1 HB4 HR4 HCG
  have d0 := cell_kept HB5.out HY0.out
  go_wp2_with fail
  generalize ((w4.alloc (.cells #[.int .i64 0, .slice none 0 0, .int .i64 0, .int .i64 block, .int .i64 0] 44)).alloc (.cells #[.int .u8 48, .int .u8 (block % 256), .int .u8 0] 5)) = W5 at *
  generalize w4.heap.size = s4 at *
  go_quiet (fail)
  have hbq : Below W5.heap.size W5 (W5.drewN nq) := drP (Below.refl _ _) nq
  have HB5 := Hid.mk (bl2 HB5.out hbq)
  have HR5 := Hid.mk (HR5.out.kept hbq)
  have HX5 := Hid.mk (HX5.out.kept hbq)
  have HW5 := Hid.mk (HW5.out.kept hbq)
  have HE1 := Hid.mk (isBytes_below HE1.out hbq)
  have HE2 := Hid.mk (isBytes_below HE2.out hbq)
  have HE3 := Hid.mk (isBytes_below HE3.out hbq)
  clear d0 k0 k1 k2 k3 k4 i3 j3
  generalize W5.drewN nq = W6 at *
  have d0 := cell_kept HB5.out HY0.out
  obtain ⟨k0, k1, k2, k3, k4⟩ := HR5.out.cells
  have i3 := k3
  have j3 := k3
  have HSS : Hid (∀ W, IsBytes W o1 n1 e1 [] → Calls Try.prog 25 #[gtV 0 o1 n1 e1 0 0 0, gtV 0 none 0 0 0 0 0] W fun e w' => e = .returned (.bool true) ∧ Below W.heap.size W w') := Hid.mk (fun W h => sameGetter_true o1 none n1 0 e1 0 [] 0 0 0 0 W h ⟨rfl, Nat.le_refl _, Nat.zero_le _, fun _ => rfl, fun y hy => by cases hy⟩)
  unfold gtV at HSS
  have hn2 : n2 = 0 := HE2.out.1.symm
  subst hn2
  have hn3 : n3 = 0 := HE3.out.1.symm
  subst hn3
  obtain ⟨x0, x1, x2, x3, x4⟩ := HX5.out.cells
  go_wp2_with fail
  refine (HSS.out _ HE1.out).mono ?_
  rintro e w6 ⟨rfl, hb6⟩
  have HB6 := Hid.mk (bl2 HB5.out hb6)
  clear hb6 HB5 HSS x0 x1 x2 x3 x4 k0 k1 k2 k3 k4 i3 j3
  go_wp2_with fail
  go_ret
  exact ⟨by first | rfl | simp, HB6.out⟩
end Bw
end Go.Proofs.Ytljigcmhkjbhjaa
