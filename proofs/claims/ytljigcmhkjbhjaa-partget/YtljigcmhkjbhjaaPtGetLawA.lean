/- The law PartGet: errors. -/
import Derived.Test.YtljigcmhkjbhjaaPtCg
import Derived.Test.YtljigcmhkjbhjaaPtConc
import Derived.Test.YtljigcmhkjbhjaaPtLed
namespace Go.Proofs.Ytljigcmhkjbhjaa
open Go.ChangeShapes Go.WideShapes Go.ChangeAt Go.RowKit
namespace Bw
open Bm
set_option linter.unusedVariables false
set_option maxHeartbeats 8000000 in
set_option maxRecDepth 100000 in
theorem pget_bad (want : Int) (a : Option Addr) (n cap : Nat) (next block left : Int) (b : Option Addr) (m mc : Nat) (dt p : List UInt8) (w : World) (hG : IsBytes w a n cap dt) (hP : IsBytes w b m mc p) (hX : getX want next block left dt p = badX (gtE n want next block left)) (hE : gtE n want next block left ≠ 0) :
    Calls Try.prog 5 #[gtV want a n cap next block left, .slice b m mc] w fun e w' => e = .returned (.bool true) ∧ Below w.heap.size w w' := by
  have hB0 := awG w (gtC want a n cap next block left)
  have HGT := Hid.mk (get_any want a n cap next block left b m mc dt p _ (isBytes_below hG hB0) (isBytes_below hP hB0))
  rw [hX] at HGT
  have HCL := Hid.mk (fun W => lcheckGetter_any a n cap want next block left W (Nat.le_trans hG.2.1 hG.2.2.1))
  have HCG := Hid.mk (fun W => checkGetter_any a n cap want next block left W (Nat.le_trans hG.2.1 hG.2.2.1))
  have hPT := fun W => parted_any W
  have HR := Hid.mk (Row5.new w 44 (.int .i64 want) (.slice a n cap) (.int .i64 next) (.int .i64 block) (.int .i64 left))
  have HB := Hid.mk hB0
  have HGG := Hid.mk hG
  have HPP := Hid.mk hP
  have hml : (m : Int) ≤ 9223372036854775807 := by have := hP.2.1; have := hP.2.2.1; unfold maxLen at this; omega
  have hne : (gtE n want next block left != 0) = true := by simpa using hE
  generalize gtE n want next block left = E at *
  clear hG hP hE
  unfold gtC at HB HGT
  unfold gtV at HGT HCL HCG ⊢
  clear hB0 hX
  go_enter Try.func5, Try.ntmps5
  go_wp2_with fail
  refine HGT.out.mono ?_
  rintro e w1 ⟨o1, n1, e1, o2, n2, e2, o3, n3, e3, rfl, hf1, hf2, hf3, -, hb1⟩
  unfold gtV
  unfold badX at *
  simp only at *
  have hba := awG w1 (.cells #[.int .i64 0, .slice o1 n1 e1, .int .i64 0, .int .i64 0, .int .i64 0] 44)
  have hbb := bl2 hb1 hba
  have HB1 := Hid.mk (bl2 HB.out hbb)
  have HR1 := Hid.mk (HR.out.kept hbb)
  have HX1 := Hid.mk (Row5.new w1 44 (.int .i64 0) (.slice o1 n1 e1) (.int .i64 0) (.int .i64 0) (.int .i64 0))
  have HF1 := Hid.mk (isBytes_below hf1.1 hba)
  have HF2 := Hid.mk (isBytes_below hf2.1 hba)
  have HF3 := Hid.mk (isBytes_below hf3.1 hba)
  obtain ⟨a0, a1, a2, a3, a4⟩ := HR1.out.cells
  clear hf1 hf2 hf3 hb1 hba hbb HB HR HGT
  go_wp2_with fail
  generalize w1.alloc (.cells #[.int .i64 0, .slice o1 n1 e1, .int .i64 0, .int .i64 0, .int .i64 0] 44) = W1 at *
  generalize w1.heap.size = s1 at *
  refine (HCL.out _).mono ?_
  rintro e w2 ⟨rfl, hb2⟩
  have HB2 := Hid.mk (bl2 HB1.out hb2)
  have hb2' := hb2
  clear HCL a0 a1 a2 a3 a4
  go_wp2_with fail
  refine (hPT _).mono ?_
  rintro e w3 ⟨rfl, hb3⟩
  have hb3' := bl2 hb2' hb3
  have HB3 := Hid.mk (bl2 HB1.out hb3')
  obtain ⟨a0, a1, a2, a3, a4⟩ := (HR1.out.kept hb3').cells
  clear hb2 hb2' hb3 HB2
  go_wp2_with fail
  refine (HCG.out _).mono ?_
  rintro e w4 ⟨rfl, hb4⟩
  have hb4' := bl2 hb3' hb4
  have HR4 := Hid.mk (HR1.out.kept hb4')
  have HB4 := Hid.mk (bl2 HB1.out hb4')
  clear a0 a1 a2 a3 a4 hb4 hb3' HB3
  have hq5 := awG w4 (.cells #[.int .i64 0, .slice none 0 0, .int .i64 0, .int .i64 block, .int .i64 0] 44)
  have hq6 := awG (w4.alloc (.cells #[.int .i64 0, .slice none 0 0, .int .i64 0, .int .i64 block, .int .i64 0] 44)) (.cells #[.int .u8 48, .int .u8 (block % 256), .int .u8 0] 5)
  have hq7 := bl2 hq5 hq6
  have hq8 := bl2 hb4' hq7
  have HB5 := Hid.mk (bl2 HB4.out hq7)
  have HR5 := Hid.mk (HR4.out.kept hq7)
  have HX5 := Hid.mk (HX1.out.kept hq8)
  have HW5 := Hid.mk ((Row5.new w4 44 (.int .i64 0) (.slice none 0 0) (.int .i64 0) (.int .i64 block) (.int .i64 0)).kept hq6)
  have HE1 := Hid.mk (isBytes_below HF1.out hq8)
  have HE2 := Hid.mk (isBytes_below HF2.out hq8)
  have HE3 := Hid.mk (isBytes_below HF3.out hq8)
  have HFL : Hid ((w4.alloc (.cells #[.int .i64 0, .slice none 0 0, .int .i64 0, .int .i64 block, .int .i64 0] 44)).heap.size = w4.heap.size + 1) := Hid.mk (by simp)
  obtain ⟨-, -, -, i3, -⟩ := HR4.out.cells
  obtain ⟨-, -, -, j3, -⟩ := (HR4.out.kept hq5).cells
  obtain ⟨k0, k1, k2, k3, k4⟩ := HR5.out.cells
  clear hb4' hq5 hq6 hq7 hq8 HR1 HX1 HF1 HF2 HF3 HB1 HB4 HR4 HCG
  have HSS : Hid (∀ W, IsBytes W o1 n1 e1 [] → Calls Try.prog 25 #[gtV 0 o1 n1 e1 0 0 0, gtV 0 none 0 0 0 0 0] W fun e w' => e = .returned (.bool true) ∧ Below W.heap.size W w') := Hid.mk (fun W h => sameGetter_true o1 none n1 0 e1 0 [] 0 0 0 0 W h ⟨rfl, Nat.le_refl _, Nat.zero_le _, fun _ => rfl, fun y hy => by cases hy⟩)
  unfold gtV at HSS
  have hn2 : n2 = 0 := HE2.out.1.symm
  subst hn2
  have hn3 : n3 = 0 := HE3.out.1.symm
  subst hn3
  obtain ⟨x0, x1, x2, x3, x4⟩ := HX5.out.cells
  go_wp2_with fail
  refine (HSS.out _ HE1.out).mono ?_
  rintro e w6 ⟨rfl, hb6⟩
  have HB6 := Hid.mk (bl2 HB5.out hb6)
  clear hb6 HB5 HSS x0 x1 x2 x3 x4 k0 k1 k2 k3 k4 i3 j3
  go_wp2_with fail
  go_ret
  exact ⟨by first | rfl | simp, HB6.out⟩
set_option maxHeartbeats 8000000 in
set_option maxRecDepth 100000 in
theorem pget_short (want : Int) (a : Option Addr) (n cap : Nat) (next block left : Int) (b : Option Addr) (m mc : Nat) (dt p : List UInt8) (w : World) (hG : IsBytes w a n cap dt) (hP : IsBytes w b m mc p) (hX : getX want next block left dt p = badX 7) (hE : gtE n want next block left = 0) (hm : m = 0) :
    Calls Try.prog 5 #[gtV want a n cap next block left, .slice b m mc] w fun e w' => e = .returned (.bool true) ∧ Below w.heap.size w w' := by
  have hB0 := awG w (gtC want a n cap next block left)
  have HGT := Hid.mk (get_any want a n cap next block left b m mc dt p _ (isBytes_below hG hB0) (isBytes_below hP hB0))
  rw [hX] at HGT
  have HCL := Hid.mk (fun W => lcheckGetter_any a n cap want next block left W (Nat.le_trans hG.2.1 hG.2.2.1))
  have HCG := Hid.mk (fun W => checkGetter_any a n cap want next block left W (Nat.le_trans hG.2.1 hG.2.2.1))
  have hPT := fun W => parted_any W
  have HR := Hid.mk (Row5.new w 44 (.int .i64 want) (.slice a n cap) (.int .i64 next) (.int .i64 block) (.int .i64 left))
  have HB := Hid.mk hB0
  have HGG := Hid.mk hG
  have HPP := Hid.mk hP
  have hml : (m : Int) ≤ 9223372036854775807 := by have := hP.2.1; have := hP.2.2.1; unfold maxLen at this; omega
  rw [hE] at HCL HCG
  have hbl := (gtE_ok hE).1.2.1
  subst hm
  clear hG hP hE hbl
  unfold gtC at HB HGT
  unfold gtV at HGT HCL HCG ⊢
  clear hB0 hX
  go_enter Try.func5, Try.ntmps5
  go_wp2_with fail
  refine HGT.out.mono ?_
  rintro e w1 ⟨o1, n1, e1, o2, n2, e2, o3, n3, e3, rfl, hf1, hf2, hf3, -, hb1⟩
  unfold gtV
  unfold badX at *
  simp only at *
  have hba := awG w1 (.cells #[.int .i64 0, .slice o1 n1 e1, .int .i64 0, .int .i64 0, .int .i64 0] 44)
  have hbb := bl2 hb1 hba
  have HB1 := Hid.mk (bl2 HB.out hbb)
  have HR1 := Hid.mk (HR.out.kept hbb)
  have HX1 := Hid.mk (Row5.new w1 44 (.int .i64 0) (.slice o1 n1 e1) (.int .i64 0) (.int .i64 0) (.int .i64 0))
  have HF1 := Hid.mk (isBytes_below hf1.1 hba)
  have HF2 := Hid.mk (isBytes_below hf2.1 hba)
  have HF3 := Hid.mk (isBytes_below hf3.1 hba)
  obtain ⟨a0, a1, a2, a3, a4⟩ := HR1.out.cells
  clear hf1 hf2 hf3 hb1 hba hbb HB HR HGT
  go_wp2_with fail
  generalize w1.alloc (.cells #[.int .i64 0, .slice o1 n1 e1, .int .i64 0, .int .i64 0, .int .i64 0] 44) = W1 at *
  generalize w1.heap.size = s1 at *
  refine (HCL.out _).mono ?_
  rintro e w2 ⟨rfl, hb2⟩
  have HB2 := Hid.mk (bl2 HB1.out hb2)
  have hb2' := hb2
  clear HCL a0 a1 a2 a3 a4
  go_wp2_with fail
  refine (hPT _).mono ?_
  rintro e w3 ⟨rfl, hb3⟩
  have hb3' := bl2 hb2' hb3
  have HB3 := Hid.mk (bl2 HB1.out hb3')
  obtain ⟨a0, a1, a2, a3, a4⟩ := (HR1.out.kept hb3').cells
  clear hb2 hb2' hb3 HB2
  go_wp2_with fail
  refine (HCG.out _).mono ?_
  rintro e w4 ⟨rfl, hb4⟩
  have hb4' := bl2 hb3' hb4
  have HR4 := Hid.mk (HR1.out.kept hb4')
  have HB4 := Hid.mk (bl2 HB1.out hb4')
  clear a0 a1 a2 a3 a4 hb4 hb3' HB3
  have hq5 := awG w4 (.cells #[.int .i64 0, .slice none 0 0, .int .i64 0, .int .i64 block, .int .i64 0] 44)
  have hq6 := awG (w4.alloc (.cells #[.int .i64 0, .slice none 0 0, .int .i64 0, .int .i64 block, .int .i64 0] 44)) (.cells #[.int .u8 48, .int .u8 (block % 256), .int .u8 0] 5)
  have hq7 := bl2 hq5 hq6
  have hq8 := bl2 hb4' hq7
  have HB5 := Hid.mk (bl2 HB4.out hq7)
  have HR5 := Hid.mk (HR4.out.kept hq7)
  have HX5 := Hid.mk (HX1.out.kept hq8)
  have HW5 := Hid.mk ((Row5.new w4 44 (.int .i64 0) (.slice none 0 0) (.int .i64 0) (.int .i64 block) (.int .i64 0)).kept hq6)
  have HE1 := Hid.mk (isBytes_below HF1.out hq8)
  have HE2 := Hid.mk (isBytes_below HF2.out hq8)
  have HE3 := Hid.mk (isBytes_below HF3.out hq8)
  have HFL : Hid ((w4.alloc (.cells #[.int .i64 0, .slice none 0 0, .int .i64 0, .int .i64 block, .int .i64 0] 44)).heap.size = w4.heap.size + 1) := Hid.mk (by simp)
  obtain ⟨-, -, -, i3, -⟩ := HR4.out.cells
  obtain ⟨-, -, -, j3, -⟩ := (HR4.out.kept hq5).cells
  obtain ⟨k0, k1, k2, k3, k4⟩ := HR5.out.cells
  clear hb4' hq5 hq6 hq7 hq8 HR1 HX1 HF1 HF2 HF3 HB1 HB4 HR4 HCG
  have HSS : Hid (∀ W, IsBytes W o1 n1 e1 [] → Calls Try.prog 25 #[gtV 0 o1 n1 e1 0 0 0, gtV 0 none 0 0 0 0 0] W fun e w' => e = .returned (.bool true) ∧ Below W.heap.size W w') := Hid.mk (fun W h => sameGetter_true o1 none n1 0 e1 0 [] 0 0 0 0 W h ⟨rfl, Nat.le_refl _, Nat.zero_le _, fun _ => rfl, fun y hy => by cases hy⟩)
  unfold gtV at HSS
  have hn2 : n2 = 0 := HE2.out.1.symm
  subst hn2
  have hn3 : n3 = 0 := HE3.out.1.symm
  subst hn3
  obtain ⟨x0, x1, x2, x3, x4⟩ := HX5.out.cells
  go_wp2_with fail
  refine (HSS.out _ HE1.out).mono ?_
  rintro e w6 ⟨rfl, hb6⟩
  have HB6 := Hid.mk (bl2 HB5.out hb6)
  clear hb6 HB5 HSS x0 x1 x2 x3 x4 k0 k1 k2 k3 k4 i3 j3
  go_wp2_with fail
  go_ret
  exact ⟨by first | rfl | simp, HB6.out⟩
set_option maxHeartbeats 8000000 in
set_option maxRecDepth 100000 in
theorem pget_many (want : Int) (a : Option Addr) (n cap : Nat) (next block left : Int) (b : Option Addr) (m mc : Nat) (dt p : List UInt8) (w : World) (hG : IsBytes w a n cap dt) (hP : IsBytes w b m mc p) (hX : getX want next block left dt p = badX 2) (hE : gtE n want next block left = 0) (hm : 8 < m) :
    Calls Try.prog 5 #[gtV want a n cap next block left, .slice b m mc] w fun e w' => e = .returned (.bool true) ∧ Below w.heap.size w w' := by
  have hB0 := awG w (gtC want a n cap next block left)
  have HGT := Hid.mk (get_any want a n cap next block left b m mc dt p _ (isBytes_below hG hB0) (isBytes_below hP hB0))
  rw [hX] at HGT
  have HCL := Hid.mk (fun W => lcheckGetter_any a n cap want next block left W (Nat.le_trans hG.2.1 hG.2.2.1))
  have HCG := Hid.mk (fun W => checkGetter_any a n cap want next block left W (Nat.le_trans hG.2.1 hG.2.2.1))
  have hPT := fun W => parted_any W
  have HR := Hid.mk (Row5.new w 44 (.int .i64 want) (.slice a n cap) (.int .i64 next) (.int .i64 block) (.int .i64 left))
  have HB := Hid.mk hB0
  have HGG := Hid.mk hG
  have HPP := Hid.mk hP
  have hml : (m : Int) ≤ 9223372036854775807 := by have := hP.2.1; have := hP.2.2.1; unfold maxLen at this; omega
  rw [hE] at HCL HCG
  have hbl := (gtE_ok hE).1.2.1
  have hm0 : ((m : Int) == 0) = false := by simp; omega
  have hm8 : (8 : Int) < (m : Int) := by omega
  clear hG hP hE hbl hm
  unfold gtC at HB HGT
  unfold gtV at HGT HCL HCG ⊢
  clear hB0 hX
  go_enter Try.func5, Try.ntmps5
  go_wp2_with fail
  refine HGT.out.mono ?_
  rintro e w1 ⟨o1, n1, e1, o2, n2, e2, o3, n3, e3, rfl, hf1, hf2, hf3, -, hb1⟩
  unfold gtV
  unfold badX at *
  simp only at *
  have hba := awG w1 (.cells #[.int .i64 0, .slice o1 n1 e1, .int .i64 0, .int .i64 0, .int .i64 0] 44)
  have hbb := bl2 hb1 hba
  have HB1 := Hid.mk (bl2 HB.out hbb)
  have HR1 := Hid.mk (HR.out.kept hbb)
  have HX1 := Hid.mk (Row5.new w1 44 (.int .i64 0) (.slice o1 n1 e1) (.int .i64 0) (.int .i64 0) (.int .i64 0))
  have HF1 := Hid.mk (isBytes_below hf1.1 hba)
  have HF2 := Hid.mk (isBytes_below hf2.1 hba)
  have HF3 := Hid.mk (isBytes_below hf3.1 hba)
  obtain ⟨a0, a1, a2, a3, a4⟩ := HR1.out.cells
  clear hf1 hf2 hf3 hb1 hba hbb HB HR HGT
  go_wp2_with fail
  generalize w1.alloc (.cells #[.int .i64 0, .slice o1 n1 e1, .int .i64 0, .int .i64 0, .int .i64 0] 44) = W1 at *
  generalize w1.heap.size = s1 at *
  refine (HCL.out _).mono ?_
  rintro e w2 ⟨rfl, hb2⟩
  have HB2 := Hid.mk (bl2 HB1.out hb2)
  have hb2' := hb2
  clear HCL a0 a1 a2 a3 a4
  go_wp2_with fail
  refine (hPT _).mono ?_
  rintro e w3 ⟨rfl, hb3⟩
  have hb3' := bl2 hb2' hb3
  have HB3 := Hid.mk (bl2 HB1.out hb3')
  obtain ⟨a0, a1, a2, a3, a4⟩ := (HR1.out.kept hb3').cells
  clear hb2 hb2' hb3 HB2
  go_wp2_with fail
  refine (HCG.out _).mono ?_
  rintro e w4 ⟨rfl, hb4⟩
  have hb4' := bl2 hb3' hb4
  have HR4 := Hid.mk (HR1.out.kept hb4')
  have HB4 := Hid.mk (bl2 HB1.out hb4')
  clear a0 a1 a2 a3 a4 hb4 hb3' HB3
  have hq5 := awG w4 (.cells #[.int .i64 0, .slice none 0 0, .int .i64 0, .int .i64 block, .int .i64 0] 44)
  have hq6 := awG (w4.alloc (.cells #[.int .i64 0, .slice none 0 0, .int .i64 0, .int .i64 block, .int .i64 0] 44)) (.cells #[.int .u8 48, .int .u8 (block % 256), .int .u8 0] 5)
  have hq7 := bl2 hq5 hq6
  have hq8 := bl2 hb4' hq7
  have HB5 := Hid.mk (bl2 HB4.out hq7)
  have HR5 := Hid.mk (HR4.out.kept hq7)
  have HX5 := Hid.mk (HX1.out.kept hq8)
  have HW5 := Hid.mk ((Row5.new w4 44 (.int .i64 0) (.slice none 0 0) (.int .i64 0) (.int .i64 block) (.int .i64 0)).kept hq6)
  have HE1 := Hid.mk (isBytes_below HF1.out hq8)
  have HE2 := Hid.mk (isBytes_below HF2.out hq8)
  have HE3 := Hid.mk (isBytes_below HF3.out hq8)
  have HFL : Hid ((w4.alloc (.cells #[.int .i64 0, .slice none 0 0, .int .i64 0, .int .i64 block, .int .i64 0] 44)).heap.size = w4.heap.size + 1) := Hid.mk (by simp)
  obtain ⟨-, -, -, i3, -⟩ := HR4.out.cells
  obtain ⟨-, -, -, j3, -⟩ := (HR4.out.kept hq5).cells
  obtain ⟨k0, k1, k2, k3, k4⟩ := HR5.out.cells
  clear hb4' hq5 hq6 hq7 hq8 HR1 HX1 HF1 HF2 HF3 HB1 HB4 HR4 HCG
  have HSS : Hid (∀ W, IsBytes W o1 n1 e1 [] → Calls Try.prog 25 #[gtV 0 o1 n1 e1 0 0 0, gtV 0 none 0 0 0 0 0] W fun e w' => e = .returned (.bool true) ∧ Below W.heap.size W w') := Hid.mk (fun W h => sameGetter_true o1 none n1 0 e1 0 [] 0 0 0 0 W h ⟨rfl, Nat.le_refl _, Nat.zero_le _, fun _ => rfl, fun y hy => by cases hy⟩)
  unfold gtV at HSS
  have hn2 : n2 = 0 := HE2.out.1.symm
  subst hn2
  have hn3 : n3 = 0 := HE3.out.1.symm
  subst hn3
  obtain ⟨x0, x1, x2, x3, x4⟩ := HX5.out.cells
  go_wp2_with fail
  refine (HSS.out _ HE1.out).mono ?_
  rintro e w6 ⟨rfl, hb6⟩
  have HB6 := Hid.mk (bl2 HB5.out hb6)
  clear hb6 HB5 HSS x0 x1 x2 x3 x4 k0 k1 k2 k3 k4 i3 j3
  go_wp2_with fail
  go_ret
  exact ⟨by first | rfl | simp, HB6.out⟩
set_option maxHeartbeats 8000000 in
set_option maxRecDepth 100000 in
theorem pget_who (want : Int) (a : Option Addr) (n cap : Nat) (next block left : Int) (y : Addr) (m mc : Nat) (dt p : List UInt8) (w : World) (hG : IsBytes w a n cap dt) (hP : IsBytes w (some y) m mc p) (hX : getX want next block left dt p = badX 8) (hE : gtE n want next block left = 0) (c0 : Nat) (hc0 : c0 < 256) (hm1 : 1 ≤ m) (hm8 : m ≤ 8) (hy : w.cell? y = some (.int .u8 (c0 : Int))) (hk : 48 ≤ c0) :
    Calls Try.prog 5 #[gtV want a n cap next block left, .slice (some y) m mc] w fun e w' => e = .returned (.bool true) ∧ Below w.heap.size w w' := by
  have hB0 := awG w (gtC want a n cap next block left)
  have HGT := Hid.mk (get_any want a n cap next block left (some y) m mc dt p _ (isBytes_below hG hB0) (isBytes_below hP hB0))
  rw [hX] at HGT
  have HCL := Hid.mk (fun W => lcheckGetter_any a n cap want next block left W (Nat.le_trans hG.2.1 hG.2.2.1))
  have HCG := Hid.mk (fun W => checkGetter_any a n cap want next block left W (Nat.le_trans hG.2.1 hG.2.2.1))
  have hPT := fun W => parted_any W
  have HR := Hid.mk (Row5.new w 44 (.int .i64 want) (.slice a n cap) (.int .i64 next) (.int .i64 block) (.int .i64 left))
  have HB := Hid.mk hB0
  have HGG := Hid.mk hG
  have HPP := Hid.mk hP
  have hml : (m : Int) ≤ 9223372036854775807 := by have := hP.2.1; have := hP.2.2.1; unfold maxLen at this; omega
  rw [hE] at HCL HCG
  have hbl := (gtE_ok hE).1.2.1
  have hm0 : ((m : Int) == 0) = false := by simp; omega
  have hm8' : ¬ ((8 : Int) < (m : Int)) := by omega
  have hm8i : (m : Int) ≤ 8 := by omega
  have hmp : 0 < m := by omega
  have hmpi : (0 : Int) < (m : Int) := by omega
  have hc0i : (c0 : Int) ≤ 255 := by omega
  have HY0 := Hid.mk hy
  have q1 : ¬ ((c0 : Int) < 16) := by omega
  have q2 : ¬ ((c0 : Int) < 32) := by omega
  have q3 : ¬ ((c0 : Int) < 48) := by omega
  clear hk hbl
  clear hG hP hE hy hm8 hm1 hc0
  unfold gtC at HB HGT
  unfold gtV at HGT HCL HCG ⊢
  clear hB0 hX
  go_enter Try.func5, Try.ntmps5
  go_wp2_with fail
  refine HGT.out.mono ?_
  rintro e w1 ⟨o1, n1, e1, o2, n2, e2, o3, n3, e3, rfl, hf1, hf2, hf3, -, hb1⟩
  unfold gtV
  unfold badX at *
  simp only at *
  have hba := awG w1 (.cells #[.int .i64 0, .slice o1 n1 e1, .int .i64 0, .int .i64 0, .int .i64 0] 44)
  have hbb := bl2 hb1 hba
  have HB1 := Hid.mk (bl2 HB.out hbb)
  have HR1 := Hid.mk (HR.out.kept hbb)
  have HX1 := Hid.mk (Row5.new w1 44 (.int .i64 0) (.slice o1 n1 e1) (.int .i64 0) (.int .i64 0) (.int .i64 0))
  have HF1 := Hid.mk (isBytes_below hf1.1 hba)
  have HF2 := Hid.mk (isBytes_below hf2.1 hba)
  have HF3 := Hid.mk (isBytes_below hf3.1 hba)
  obtain ⟨a0, a1, a2, a3, a4⟩ := HR1.out.cells
  clear hf1 hf2 hf3 hb1 hba hbb HB HR HGT
  go_wp2_with fail
  generalize w1.alloc (.cells #[.int .i64 0, .slice o1 n1 e1, .int .i64 0, .int .i64 0, .int .i64 0] 44) = W1 at *
  generalize w1.heap.size = s1 at *
  refine (HCL.out _).mono ?_
  rintro e w2 ⟨rfl, hb2⟩
  have HB2 := Hid.mk (bl2 HB1.out hb2)
  have hb2' := hb2
  clear HCL a0 a1 a2 a3 a4
  go_wp2_with fail
  refine (hPT _).mono ?_
  rintro e w3 ⟨rfl, hb3⟩
  have hb3' := bl2 hb2' hb3
  have HB3 := Hid.mk (bl2 HB1.out hb3')
  obtain ⟨a0, a1, a2, a3, a4⟩ := (HR1.out.kept hb3').cells
  clear hb2 hb2' hb3 HB2
  go_wp2_with fail
  refine (HCG.out _).mono ?_
  rintro e w4 ⟨rfl, hb4⟩
  have hb4' := bl2 hb3' hb4
  have HR4 := Hid.mk (HR1.out.kept hb4')
  have HB4 := Hid.mk (bl2 HB1.out hb4')
  clear a0 a1 a2 a3 a4 hb4 hb3' HB3
  have hq5 := awG w4 (.cells #[.int .i64 0, .slice none 0 0, .int .i64 0, .int .i64 block, .int .i64 0] 44)
  have hq6 := awG (w4.alloc (.cells #[.int .i64 0, .slice none 0 0, .int .i64 0, .int .i64 block, .int .i64 0] 44)) (.cells #[.int .u8 48, .int .u8 (block % 256), .int .u8 0] 5)
  have hq7 := bl2 hq5 hq6
  have hq8 := bl2 hb4' hq7
  have HB5 := Hid.mk (bl2 HB4.out hq7)
  have HR5 := Hid.mk (HR4.out.kept hq7)
  have HX5 := Hid.mk (HX1.out.kept hq8)
  have HW5 := Hid.mk ((Row5.new w4 44 (.int .i64 0) (.slice none 0 0) (.int .i64 0) (.int .i64 block) (.int .i64 0)).kept hq6)
  have HE1 := Hid.mk (isBytes_below HF1.out hq8)
  have HE2 := Hid.mk (isBytes_below HF2.out hq8)
  have HE3 := Hid.mk (isBytes_below HF3.out hq8)
  have HFL : Hid ((w4.alloc (.cells #[.int .i64 0, .slice none 0 0, .int .i64 0, .int .i64 block, .int .i64 0] 44)).heap.size = w4.heap.size + 1) := Hid.mk (by simp)
  obtain ⟨-, -, -, i3, -⟩ := HR4.out.cells
  obtain ⟨-, -, -, j3, -⟩ := (HR4.out.kept hq5).cells
  obtain ⟨k0, k1, k2, k3, k4⟩ := HR5.out.cells
  clear hb4' hq5 hq6 hq7 hq8 HR1 HX1 HF1 HF2 HF3 HB1 HB4 HR4 HCG
  have d0 := cell_kept HB5.out HY0.out
  have HSS : Hid (∀ W, IsBytes W o1 n1 e1 [] → Calls Try.prog 25 #[gtV 0 o1 n1 e1 0 0 0, gtV 0 none 0 0 0 0 0] W fun e w' => e = .returned (.bool true) ∧ Below W.heap.size W w') := Hid.mk (fun W h => sameGetter_true o1 none n1 0 e1 0 [] 0 0 0 0 W h ⟨rfl, Nat.le_refl _, Nat.zero_le _, fun _ => rfl, fun y hy => by cases hy⟩)
  unfold gtV at HSS
  have hn2 : n2 = 0 := HE2.out.1.symm
  subst hn2
  have hn3 : n3 = 0 := HE3.out.1.symm
  subst hn3
  obtain ⟨x0, x1, x2, x3, x4⟩ := HX5.out.cells
  go_wp2_with fail
  refine (HSS.out _ HE1.out).mono ?_
  rintro e w6 ⟨rfl, hb6⟩
  have HB6 := Hid.mk (bl2 HB5.out hb6)
  clear hb6 HB5 HSS x0 x1 x2 x3 x4 k0 k1 k2 k3 k4 i3 j3
  go_wp2_with fail
  go_ret
  exact ⟨by first | rfl | simp, HB6.out⟩
set_option maxHeartbeats 8000000 in
set_option maxRecDepth 100000 in
theorem pget_one_zeroA (want : Int) (a : Option Addr) (n cap : Nat) (next block left : Int) (y : Addr) (m mc : Nat) (dt p : List UInt8) (w : World) (hG : IsBytes w a n cap dt) (hP : IsBytes w (some y) m mc p) (hX : getX want next block left dt p = badX 4) (hE : gtE n want next block left = 0) (c0 : Nat) (hc0 : c0 < 256) (hm1 : 1 ≤ m) (hm8 : m ≤ 8) (hy : w.cell? y = some (.int .u8 (c0 : Int))) (hmc : mc = 1) (hk : c0 = 0) :
    Calls Try.prog 5 #[gtV want a n cap next block left, .slice (some y) m mc] w fun e w' => e = .returned (.bool true) ∧ Below w.heap.size w w' := by
  have hB0 := awG w (gtC want a n cap next block left)
  have HGT := Hid.mk (get_any want a n cap next block left (some y) m mc dt p _ (isBytes_below hG hB0) (isBytes_below hP hB0))
  rw [hX] at HGT
  have HCL := Hid.mk (fun W => lcheckGetter_any a n cap want next block left W (Nat.le_trans hG.2.1 hG.2.2.1))
  have HCG := Hid.mk (fun W => checkGetter_any a n cap want next block left W (Nat.le_trans hG.2.1 hG.2.2.1))
  have hPT := fun W => parted_any W
  have HR := Hid.mk (Row5.new w 44 (.int .i64 want) (.slice a n cap) (.int .i64 next) (.int .i64 block) (.int .i64 left))
  have HB := Hid.mk hB0
  have HGG := Hid.mk hG
  have HPP := Hid.mk hP
  have hml : (m : Int) ≤ 9223372036854775807 := by have := hP.2.1; have := hP.2.2.1; unfold maxLen at this; omega
  rw [hE] at HCL HCG
  have hbl := (gtE_ok hE).1.2.1
  have hm0 : ((m : Int) == 0) = false := by simp; omega
  have hm8' : ¬ ((8 : Int) < (m : Int)) := by omega
  have hm8i : (m : Int) ≤ 8 := by omega
  have hmp : 0 < m := by omega
  have hmpi : (0 : Int) < (m : Int) := by omega
  have hc0i : (c0 : Int) ≤ 255 := by omega
  have HY0 := Hid.mk hy
  have q1 : (c0 : Int) < 16 := by omega
  subst hk
  have hmm : m = 1 := by have := hP.2.1; omega
  subst hmm
  subst hmc
  clear hbl
  clear hG hP hE hy hm8 hc0
  unfold gtC at HB HGT
  unfold gtV at HGT HCL HCG ⊢
  clear hB0 hX
  go_enter Try.func5, Try.ntmps5
  go_wp2_with fail
  refine HGT.out.mono ?_
  rintro e w1 ⟨o1, n1, e1, o2, n2, e2, o3, n3, e3, rfl, hf1, hf2, hf3, -, hb1⟩
  unfold gtV
  unfold badX at *
  simp only at *
  have hba := awG w1 (.cells #[.int .i64 0, .slice o1 n1 e1, .int .i64 0, .int .i64 0, .int .i64 0] 44)
  have hbb := bl2 hb1 hba
  have HB1 := Hid.mk (bl2 HB.out hbb)
  have HR1 := Hid.mk (HR.out.kept hbb)
  have HX1 := Hid.mk (Row5.new w1 44 (.int .i64 0) (.slice o1 n1 e1) (.int .i64 0) (.int .i64 0) (.int .i64 0))
  have HF1 := Hid.mk (isBytes_below hf1.1 hba)
  have HF2 := Hid.mk (isBytes_below hf2.1 hba)
  have HF3 := Hid.mk (isBytes_below hf3.1 hba)
  obtain ⟨a0, a1, a2, a3, a4⟩ := HR1.out.cells
  clear hf1 hf2 hf3 hb1 hba hbb HB HR HGT
  go_wp2_with fail
  generalize w1.alloc (.cells #[.int .i64 0, .slice o1 n1 e1, .int .i64 0, .int .i64 0, .int .i64 0] 44) = W1 at *
  generalize w1.heap.size = s1 at *
  refine (HCL.out _).mono ?_
  rintro e w2 ⟨rfl, hb2⟩
  have HB2 := Hid.mk (bl2 HB1.out hb2)
  have hb2' := hb2
  clear HCL a0 a1 a2 a3 a4
  go_wp2_with fail
  refine (hPT _).mono ?_
  rintro e w3 ⟨rfl, hb3⟩
  have hb3' := bl2 hb2' hb3
  have HB3 := Hid.mk (bl2 HB1.out hb3')
  obtain ⟨a0, a1, a2, a3, a4⟩ := (HR1.out.kept hb3').cells
  clear hb2 hb2' hb3 HB2
  go_wp2_with fail
  refine (HCG.out _).mono ?_
  rintro e w4 ⟨rfl, hb4⟩
  have hb4' := bl2 hb3' hb4
  have HR4 := Hid.mk (HR1.out.kept hb4')
  have HB4 := Hid.mk (bl2 HB1.out hb4')
  clear a0 a1 a2 a3 a4 hb4 hb3' HB3
  have hq5 := awG w4 (.cells #[.int .i64 0, .slice none 0 0, .int .i64 0, .int .i64 block, .int .i64 0] 44)
  have hq6 := awG (w4.alloc (.cells #[.int .i64 0, .slice none 0 0, .int .i64 0, .int .i64 block, .int .i64 0] 44)) (.cells #[.int .u8 48, .int .u8 (block % 256), .int .u8 0] 5)
  have hq7 := bl2 hq5 hq6
  have hq8 := bl2 hb4' hq7
  have HB5 := Hid.mk (bl2 HB4.out hq7)
  have HR5 := Hid.mk (HR4.out.kept hq7)
  have HX5 := Hid.mk (HX1.out.kept hq8)
  have HW5 := Hid.mk ((Row5.new w4 44 (.int .i64 0) (.slice none 0 0) (.int .i64 0) (.int .i64 block) (.int .i64 0)).kept hq6)
  have HE1 := Hid.mk (isBytes_below HF1.out hq8)
  have HE2 := Hid.mk (isBytes_below HF2.out hq8)
  have HE3 := Hid.mk (isBytes_below HF3.out hq8)
  have HFL : Hid ((w4.alloc (.cells #[.int .i64 0, .slice none 0 0, .int .i64 0, .int .i64 block, .int .i64 0] 44)).heap.size = w4.heap.size + 1) := Hid.mk (by simp)
  obtain ⟨-, -, -, i3, -⟩ := HR4.out.cells
  obtain ⟨-, -, -, j3, -⟩ := (HR4.out.kept hq5).cells
  obtain ⟨k0, k1, k2, k3, k4⟩ := HR5.out.cells
  clear hb4' hq5 hq6 hq7 hq8 HR1 HX1 HF1 HF2 HF3 HB1 HB4 HR4 HCG
  have d0 := cell_kept HB5.out HY0.out
  have HSS : Hid (∀ W, IsBytes W o1 n1 e1 [] → Calls Try.prog 25 #[gtV 0 o1 n1 e1 0 0 0, gtV 0 none 0 0 0 0 0] W fun e w' => e = .returned (.bool true) ∧ Below W.heap.size W w') := Hid.mk (fun W h => sameGetter_true o1 none n1 0 e1 0 [] 0 0 0 0 W h ⟨rfl, Nat.le_refl _, Nat.zero_le _, fun _ => rfl, fun y hy => by cases hy⟩)
  unfold gtV at HSS
  have hn2 : n2 = 0 := HE2.out.1.symm
  subst hn2
  have hn3 : n3 = 0 := HE3.out.1.symm
  subst hn3
  obtain ⟨x0, x1, x2, x3, x4⟩ := HX5.out.cells
  go_wp2_with fail
  refine (HSS.out _ HE1.out).mono ?_
  rintro e w6 ⟨rfl, hb6⟩
  have HB6 := Hid.mk (bl2 HB5.out hb6)
  clear hb6 HB5 HSS x0 x1 x2 x3 x4 k0 k1 k2 k3 k4 i3 j3
  go_wp2_with fail
  go_ret
  exact ⟨by first | rfl | simp, HB6.out⟩
set_option maxHeartbeats 8000000 in
set_option maxRecDepth 100000 in
theorem pget_one_zeroB (want : Int) (a : Option Addr) (n cap : Nat) (next block left : Int) (y : Addr) (m mc : Nat) (dt p : List UInt8) (w : World) (hG : IsBytes w a n cap dt) (hP : IsBytes w (some y) m mc p) (hX : getX want next block left dt p = badX 4) (hE : gtE n want next block left = 0) (c0 : Nat) (hc0 : c0 < 256) (hm1 : 1 ≤ m) (hm8 : m ≤ 8) (hy : w.cell? y = some (.int .u8 (c0 : Int))) (hmc : 1 < mc) (hk : c0 = 0) :
    Calls Try.prog 5 #[gtV want a n cap next block left, .slice (some y) m mc] w fun e w' => e = .returned (.bool true) ∧ Below w.heap.size w w' := by
  have hB0 := awG w (gtC want a n cap next block left)
  have HGT := Hid.mk (get_any want a n cap next block left (some y) m mc dt p _ (isBytes_below hG hB0) (isBytes_below hP hB0))
  rw [hX] at HGT
  have HCL := Hid.mk (fun W => lcheckGetter_any a n cap want next block left W (Nat.le_trans hG.2.1 hG.2.2.1))
  have HCG := Hid.mk (fun W => checkGetter_any a n cap want next block left W (Nat.le_trans hG.2.1 hG.2.2.1))
  have hPT := fun W => parted_any W
  have HR := Hid.mk (Row5.new w 44 (.int .i64 want) (.slice a n cap) (.int .i64 next) (.int .i64 block) (.int .i64 left))
  have HB := Hid.mk hB0
  have HGG := Hid.mk hG
  have HPP := Hid.mk hP
  have hml : (m : Int) ≤ 9223372036854775807 := by have := hP.2.1; have := hP.2.2.1; unfold maxLen at this; omega
  rw [hE] at HCL HCG
  have hbl := (gtE_ok hE).1.2.1
  have hm0 : ((m : Int) == 0) = false := by simp; omega
  have hm8' : ¬ ((8 : Int) < (m : Int)) := by omega
  have hm8i : (m : Int) ≤ 8 := by omega
  have hmp : 0 < m := by omega
  have hmpi : (0 : Int) < (m : Int) := by omega
  have hc0i : (c0 : Int) ≤ 255 := by omega
  have HY0 := Hid.mk hy
  have q1 : (c0 : Int) < 16 := by omega
  subst hk
  have hmcn : ¬ mc = 1 := by omega
  have hmci : (1 : Int) < (mc : Int) := by omega
  have hm1i : (1 : Int) ≤ (m : Int) := by omega
  have hm1n : 1 ≤ m := by omega
  clear hbl
  clear hG hP hE hy hm8 hc0
  unfold gtC at HB HGT
  unfold gtV at HGT HCL HCG ⊢
  clear hB0 hX
  go_enter Try.func5, Try.ntmps5
  go_wp2_with fail
  refine HGT.out.mono ?_
  rintro e w1 ⟨o1, n1, e1, o2, n2, e2, o3, n3, e3, rfl, hf1, hf2, hf3, -, hb1⟩
  unfold gtV
  unfold badX at *
  simp only at *
  have hba := awG w1 (.cells #[.int .i64 0, .slice o1 n1 e1, .int .i64 0, .int .i64 0, .int .i64 0] 44)
  have hbb := bl2 hb1 hba
  have HB1 := Hid.mk (bl2 HB.out hbb)
  have HR1 := Hid.mk (HR.out.kept hbb)
  have HX1 := Hid.mk (Row5.new w1 44 (.int .i64 0) (.slice o1 n1 e1) (.int .i64 0) (.int .i64 0) (.int .i64 0))
  have HF1 := Hid.mk (isBytes_below hf1.1 hba)
  have HF2 := Hid.mk (isBytes_below hf2.1 hba)
  have HF3 := Hid.mk (isBytes_below hf3.1 hba)
  obtain ⟨a0, a1, a2, a3, a4⟩ := HR1.out.cells
  clear hf1 hf2 hf3 hb1 hba hbb HB HR HGT
  go_wp2_with fail
  generalize w1.alloc (.cells #[.int .i64 0, .slice o1 n1 e1, .int .i64 0, .int .i64 0, .int .i64 0] 44) = W1 at *
  generalize w1.heap.size = s1 at *
  refine (HCL.out _).mono ?_
  rintro e w2 ⟨rfl, hb2⟩
  have HB2 := Hid.mk (bl2 HB1.out hb2)
  have hb2' := hb2
  clear HCL a0 a1 a2 a3 a4
  go_wp2_with fail
  refine (hPT _).mono ?_
  rintro e w3 ⟨rfl, hb3⟩
  have hb3' := bl2 hb2' hb3
  have HB3 := Hid.mk (bl2 HB1.out hb3')
  obtain ⟨a0, a1, a2, a3, a4⟩ := (HR1.out.kept hb3').cells
  clear hb2 hb2' hb3 HB2
  go_wp2_with fail
  refine (HCG.out _).mono ?_
  rintro e w4 ⟨rfl, hb4⟩
  have hb4' := bl2 hb3' hb4
  have HR4 := Hid.mk (HR1.out.kept hb4')
  have HB4 := Hid.mk (bl2 HB1.out hb4')
  clear a0 a1 a2 a3 a4 hb4 hb3' HB3
  have hq5 := awG w4 (.cells #[.int .i64 0, .slice none 0 0, .int .i64 0, .int .i64 block, .int .i64 0] 44)
  have hq6 := awG (w4.alloc (.cells #[.int .i64 0, .slice none 0 0, .int .i64 0, .int .i64 block, .int .i64 0] 44)) (.cells #[.int .u8 48, .int .u8 (block % 256), .int .u8 0] 5)
  have hq7 := bl2 hq5 hq6
  have hq8 := bl2 hb4' hq7
  have HB5 := Hid.mk (bl2 HB4.out hq7)
  have HR5 := Hid.mk (HR4.out.kept hq7)
  have HX5 := Hid.mk (HX1.out.kept hq8)
  have HW5 := Hid.mk ((Row5.new w4 44 (.int .i64 0) (.slice none 0 0) (.int .i64 0) (.int .i64 block) (.int .i64 0)).kept hq6)
  have HE1 := Hid.mk (isBytes_below HF1.out hq8)
  have HE2 := Hid.mk (isBytes_below HF2.out hq8)
  have HE3 := Hid.mk (isBytes_below HF3.out hq8)
  have HFL : Hid ((w4.alloc (.cells #[.int .i64 0, .slice none 0 0, .int .i64 0, .int .i64 block, .int .i64 0] 44)).heap.size = w4.heap.size + 1) := Hid.mk (by simp)
  obtain ⟨-, -, -, i3, -⟩ := HR4.out.cells
  obtain ⟨-, -, -, j3, -⟩ := (HR4.out.kept hq5).cells
  obtain ⟨k0, k1, k2, k3, k4⟩ := HR5.out.cells
  clear hb4' hq5 hq6 hq7 hq8 HR1 HX1 HF1 HF2 HF3 HB1 HB4 HR4 HCG
  have d0 := cell_kept HB5.out HY0.out
  have HSS : Hid (∀ W, IsBytes W o1 n1 e1 [] → Calls Try.prog 25 #[gtV 0 o1 n1 e1 0 0 0, gtV 0 none 0 0 0 0 0] W fun e w' => e = .returned (.bool true) ∧ Below W.heap.size W w') := Hid.mk (fun W h => sameGetter_true o1 none n1 0 e1 0 [] 0 0 0 0 W h ⟨rfl, Nat.le_refl _, Nat.zero_le _, fun _ => rfl, fun y hy => by cases hy⟩)
  unfold gtV at HSS
  have hn2 : n2 = 0 := HE2.out.1.symm
  subst hn2
  have hn3 : n3 = 0 := HE3.out.1.symm
  subst hn3
  obtain ⟨x0, x1, x2, x3, x4⟩ := HX5.out.cells
  go_wp2_with fail
  refine (HSS.out _ HE1.out).mono ?_
  rintro e w6 ⟨rfl, hb6⟩
  have HB6 := Hid.mk (bl2 HB5.out hb6)
  clear hb6 HB5 HSS x0 x1 x2 x3 x4 k0 k1 k2 k3 k4 i3 j3
  go_wp2_with fail
  go_ret
  exact ⟨by first | rfl | simp, HB6.out⟩
set_option maxHeartbeats 8000000 in
set_option maxRecDepth 100000 in
theorem pget_one_bigA (want : Int) (a : Option Addr) (n cap : Nat) (next block left : Int) (y : Addr) (m mc : Nat) (dt p : List UInt8) (w : World) (hG : IsBytes w a n cap dt) (hP : IsBytes w (some y) m mc p) (hX : getX want next block left dt p = badX 4) (hE : gtE n want next block left = 0) (c0 : Nat) (hc0 : c0 < 256) (hm1 : 1 ≤ m) (hm8 : m ≤ 8) (hy : w.cell? y = some (.int .u8 (c0 : Int))) (hmc : mc = 1) (hk : 7 < c0 ∧ c0 < 16) :
    Calls Try.prog 5 #[gtV want a n cap next block left, .slice (some y) m mc] w fun e w' => e = .returned (.bool true) ∧ Below w.heap.size w w' := by
  have hB0 := awG w (gtC want a n cap next block left)
  have HGT := Hid.mk (get_any want a n cap next block left (some y) m mc dt p _ (isBytes_below hG hB0) (isBytes_below hP hB0))
  rw [hX] at HGT
  have HCL := Hid.mk (fun W => lcheckGetter_any a n cap want next block left W (Nat.le_trans hG.2.1 hG.2.2.1))
  have HCG := Hid.mk (fun W => checkGetter_any a n cap want next block left W (Nat.le_trans hG.2.1 hG.2.2.1))
  have hPT := fun W => parted_any W
  have HR := Hid.mk (Row5.new w 44 (.int .i64 want) (.slice a n cap) (.int .i64 next) (.int .i64 block) (.int .i64 left))
  have HB := Hid.mk hB0
  have HGG := Hid.mk hG
  have HPP := Hid.mk hP
  have hml : (m : Int) ≤ 9223372036854775807 := by have := hP.2.1; have := hP.2.2.1; unfold maxLen at this; omega
  rw [hE] at HCL HCG
  have hbl := (gtE_ok hE).1.2.1
  have hm0 : ((m : Int) == 0) = false := by simp; omega
  have hm8' : ¬ ((8 : Int) < (m : Int)) := by omega
  have hm8i : (m : Int) ≤ 8 := by omega
  have hmp : 0 < m := by omega
  have hmpi : (0 : Int) < (m : Int) := by omega
  have hc0i : (c0 : Int) ≤ 255 := by omega
  have HY0 := Hid.mk hy
  have q1 : (c0 : Int) < 16 := by omega
  have q4 : ((c0 : Int) == 0) = false := by simp; omega
  have q5 : (7 : Int) < (c0 : Int) := by omega
  clear hk
  have hmm : m = 1 := by have := hP.2.1; omega
  subst hmm
  subst hmc
  clear hbl
  clear hG hP hE hy hm8 hc0
  unfold gtC at HB HGT
  unfold gtV at HGT HCL HCG ⊢
  clear hB0 hX
  go_enter Try.func5, Try.ntmps5
  go_wp2_with fail
  refine HGT.out.mono ?_
  rintro e w1 ⟨o1, n1, e1, o2, n2, e2, o3, n3, e3, rfl, hf1, hf2, hf3, -, hb1⟩
  unfold gtV
  unfold badX at *
  simp only at *
  have hba := awG w1 (.cells #[.int .i64 0, .slice o1 n1 e1, .int .i64 0, .int .i64 0, .int .i64 0] 44)
  have hbb := bl2 hb1 hba
  have HB1 := Hid.mk (bl2 HB.out hbb)
  have HR1 := Hid.mk (HR.out.kept hbb)
  have HX1 := Hid.mk (Row5.new w1 44 (.int .i64 0) (.slice o1 n1 e1) (.int .i64 0) (.int .i64 0) (.int .i64 0))
  have HF1 := Hid.mk (isBytes_below hf1.1 hba)
  have HF2 := Hid.mk (isBytes_below hf2.1 hba)
  have HF3 := Hid.mk (isBytes_below hf3.1 hba)
  obtain ⟨a0, a1, a2, a3, a4⟩ := HR1.out.cells
  clear hf1 hf2 hf3 hb1 hba hbb HB HR HGT
  go_wp2_with fail
  generalize w1.alloc (.cells #[.int .i64 0, .slice o1 n1 e1, .int .i64 0, .int .i64 0, .int .i64 0] 44) = W1 at *
  generalize w1.heap.size = s1 at *
  refine (HCL.out _).mono ?_
  rintro e w2 ⟨rfl, hb2⟩
  have HB2 := Hid.mk (bl2 HB1.out hb2)
  have hb2' := hb2
  clear HCL a0 a1 a2 a3 a4
  go_wp2_with fail
  refine (hPT _).mono ?_
  rintro e w3 ⟨rfl, hb3⟩
  have hb3' := bl2 hb2' hb3
  have HB3 := Hid.mk (bl2 HB1.out hb3')
  obtain ⟨a0, a1, a2, a3, a4⟩ := (HR1.out.kept hb3').cells
  clear hb2 hb2' hb3 HB2
  go_wp2_with fail
  refine (HCG.out _).mono ?_
  rintro e w4 ⟨rfl, hb4⟩
  have hb4' := bl2 hb3' hb4
  have HR4 := Hid.mk (HR1.out.kept hb4')
  have HB4 := Hid.mk (bl2 HB1.out hb4')
  clear a0 a1 a2 a3 a4 hb4 hb3' HB3
  have hq5 := awG w4 (.cells #[.int .i64 0, .slice none 0 0, .int .i64 0, .int .i64 block, .int .i64 0] 44)
  have hq6 := awG (w4.alloc (.cells #[.int .i64 0, .slice none 0 0, .int .i64 0, .int .i64 block, .int .i64 0] 44)) (.cells #[.int .u8 48, .int .u8 (block % 256), .int .u8 0] 5)
  have hq7 := bl2 hq5 hq6
  have hq8 := bl2 hb4' hq7
  have HB5 := Hid.mk (bl2 HB4.out hq7)
  have HR5 := Hid.mk (HR4.out.kept hq7)
  have HX5 := Hid.mk (HX1.out.kept hq8)
  have HW5 := Hid.mk ((Row5.new w4 44 (.int .i64 0) (.slice none 0 0) (.int .i64 0) (.int .i64 block) (.int .i64 0)).kept hq6)
  have HE1 := Hid.mk (isBytes_below HF1.out hq8)
  have HE2 := Hid.mk (isBytes_below HF2.out hq8)
  have HE3 := Hid.mk (isBytes_below HF3.out hq8)
  have HFL : Hid ((w4.alloc (.cells #[.int .i64 0, .slice none 0 0, .int .i64 0, .int .i64 block, .int .i64 0] 44)).heap.size = w4.heap.size + 1) := Hid.mk (by simp)
  obtain ⟨-, -, -, i3, -⟩ := HR4.out.cells
  obtain ⟨-, -, -, j3, -⟩ := (HR4.out.kept hq5).cells
  obtain ⟨k0, k1, k2, k3, k4⟩ := HR5.out.cells
  clear hb4' hq5 hq6 hq7 hq8 HR1 HX1 HF1 HF2 HF3 HB1 HB4 HR4 HCG
  have d0 := cell_kept HB5.out HY0.out
  have HSS : Hid (∀ W, IsBytes W o1 n1 e1 [] → Calls Try.prog 25 #[gtV 0 o1 n1 e1 0 0 0, gtV 0 none 0 0 0 0 0] W fun e w' => e = .returned (.bool true) ∧ Below W.heap.size W w') := Hid.mk (fun W h => sameGetter_true o1 none n1 0 e1 0 [] 0 0 0 0 W h ⟨rfl, Nat.le_refl _, Nat.zero_le _, fun _ => rfl, fun y hy => by cases hy⟩)
  unfold gtV at HSS
  have hn2 : n2 = 0 := HE2.out.1.symm
  subst hn2
  have hn3 : n3 = 0 := HE3.out.1.symm
  subst hn3
  obtain ⟨x0, x1, x2, x3, x4⟩ := HX5.out.cells
  go_wp2_with fail
  refine (HSS.out _ HE1.out).mono ?_
  rintro e w6 ⟨rfl, hb6⟩
  have HB6 := Hid.mk (bl2 HB5.out hb6)
  clear hb6 HB5 HSS x0 x1 x2 x3 x4 k0 k1 k2 k3 k4 i3 j3
  go_wp2_with fail
  go_ret
  exact ⟨by first | rfl | simp, HB6.out⟩
set_option maxHeartbeats 8000000 in
set_option maxRecDepth 100000 in
theorem pget_one_bigB (want : Int) (a : Option Addr) (n cap : Nat) (next block left : Int) (y : Addr) (m mc : Nat) (dt p : List UInt8) (w : World) (hG : IsBytes w a n cap dt) (hP : IsBytes w (some y) m mc p) (hX : getX want next block left dt p = badX 4) (hE : gtE n want next block left = 0) (c0 : Nat) (hc0 : c0 < 256) (hm1 : 1 ≤ m) (hm8 : m ≤ 8) (hy : w.cell? y = some (.int .u8 (c0 : Int))) (hmc : 1 < mc) (hk : 7 < c0 ∧ c0 < 16) :
    Calls Try.prog 5 #[gtV want a n cap next block left, .slice (some y) m mc] w fun e w' => e = .returned (.bool true) ∧ Below w.heap.size w w' := by
  have hB0 := awG w (gtC want a n cap next block left)
  have HGT := Hid.mk (get_any want a n cap next block left (some y) m mc dt p _ (isBytes_below hG hB0) (isBytes_below hP hB0))
  rw [hX] at HGT
  have HCL := Hid.mk (fun W => lcheckGetter_any a n cap want next block left W (Nat.le_trans hG.2.1 hG.2.2.1))
  have HCG := Hid.mk (fun W => checkGetter_any a n cap want next block left W (Nat.le_trans hG.2.1 hG.2.2.1))
  have hPT := fun W => parted_any W
  have HR := Hid.mk (Row5.new w 44 (.int .i64 want) (.slice a n cap) (.int .i64 next) (.int .i64 block) (.int .i64 left))
  have HB := Hid.mk hB0
  have HGG := Hid.mk hG
  have HPP := Hid.mk hP
  have hml : (m : Int) ≤ 9223372036854775807 := by have := hP.2.1; have := hP.2.2.1; unfold maxLen at this; omega
  rw [hE] at HCL HCG
  have hbl := (gtE_ok hE).1.2.1
  have hm0 : ((m : Int) == 0) = false := by simp; omega
  have hm8' : ¬ ((8 : Int) < (m : Int)) := by omega
  have hm8i : (m : Int) ≤ 8 := by omega
  have hmp : 0 < m := by omega
  have hmpi : (0 : Int) < (m : Int) := by omega
  have hc0i : (c0 : Int) ≤ 255 := by omega
  have HY0 := Hid.mk hy
  have q1 : (c0 : Int) < 16 := by omega
  have q4 : ((c0 : Int) == 0) = false := by simp; omega
  have q5 : (7 : Int) < (c0 : Int) := by omega
  clear hk
  have hmcn : ¬ mc = 1 := by omega
  have hmci : (1 : Int) < (mc : Int) := by omega
  have hm1i : (1 : Int) ≤ (m : Int) := by omega
  have hm1n : 1 ≤ m := by omega
  clear hbl
  clear hG hP hE hy hm8 hc0
  unfold gtC at HB HGT
  unfold gtV at HGT HCL HCG ⊢
  clear hB0 hX
  go_enter Try.func5, Try.ntmps5
  go_wp2_with fail
  refine HGT.out.mono ?_
  rintro e w1 ⟨o1, n1, e1, o2, n2, e2, o3, n3, e3, rfl, hf1, hf2, hf3, -, hb1⟩
  unfold gtV
  unfold badX at *
  simp only at *
  have hba := awG w1 (.cells #[.int .i64 0, .slice o1 n1 e1, .int .i64 0, .int .i64 0, .int .i64 0] 44)
  have hbb := bl2 hb1 hba
  have HB1 := Hid.mk (bl2 HB.out hbb)
  have HR1 := Hid.mk (HR.out.kept hbb)
  have HX1 := Hid.mk (Row5.new w1 44 (.int .i64 0) (.slice o1 n1 e1) (.int .i64 0) (.int .i64 0) (.int .i64 0))
  have HF1 := Hid.mk (isBytes_below hf1.1 hba)
  have HF2 := Hid.mk (isBytes_below hf2.1 hba)
  have HF3 := Hid.mk (isBytes_below hf3.1 hba)
  obtain ⟨a0, a1, a2, a3, a4⟩ := HR1.out.cells
  clear hf1 hf2 hf3 hb1 hba hbb HB HR HGT
  go_wp2_with fail
  generalize w1.alloc (.cells #[.int .i64 0, .slice o1 n1 e1, .int .i64 0, .int .i64 0, .int .i64 0] 44) = W1 at *
  generalize w1.heap.size = s1 at *
  refine (HCL.out _).mono ?_
  rintro e w2 ⟨rfl, hb2⟩
  have HB2 := Hid.mk (bl2 HB1.out hb2)
  have hb2' := hb2
  clear HCL a0 a1 a2 a3 a4
  go_wp2_with fail
  refine (hPT _).mono ?_
  rintro e w3 ⟨rfl, hb3⟩
  have hb3' := bl2 hb2' hb3
  have HB3 := Hid.mk (bl2 HB1.out hb3')
  obtain ⟨a0, a1, a2, a3, a4⟩ := (HR1.out.kept hb3').cells
  clear hb2 hb2' hb3 HB2
  go_wp2_with fail
  refine (HCG.out _).mono ?_
  rintro e w4 ⟨rfl, hb4⟩
  have hb4' := bl2 hb3' hb4
  have HR4 := Hid.mk (HR1.out.kept hb4')
  have HB4 := Hid.mk (bl2 HB1.out hb4')
  clear a0 a1 a2 a3 a4 hb4 hb3' HB3
  have hq5 := awG w4 (.cells #[.int .i64 0, .slice none 0 0, .int .i64 0, .int .i64 block, .int .i64 0] 44)
  have hq6 := awG (w4.alloc (.cells #[.int .i64 0, .slice none 0 0, .int .i64 0, .int .i64 block, .int .i64 0] 44)) (.cells #[.int .u8 48, .int .u8 (block % 256), .int .u8 0] 5)
  have hq7 := bl2 hq5 hq6
  have hq8 := bl2 hb4' hq7
  have HB5 := Hid.mk (bl2 HB4.out hq7)
  have HR5 := Hid.mk (HR4.out.kept hq7)
  have HX5 := Hid.mk (HX1.out.kept hq8)
  have HW5 := Hid.mk ((Row5.new w4 44 (.int .i64 0) (.slice none 0 0) (.int .i64 0) (.int .i64 block) (.int .i64 0)).kept hq6)
  have HE1 := Hid.mk (isBytes_below HF1.out hq8)
  have HE2 := Hid.mk (isBytes_below HF2.out hq8)
  have HE3 := Hid.mk (isBytes_below HF3.out hq8)
  have HFL : Hid ((w4.alloc (.cells #[.int .i64 0, .slice none 0 0, .int .i64 0, .int .i64 block, .int .i64 0] 44)).heap.size = w4.heap.size + 1) := Hid.mk (by simp)
  obtain ⟨-, -, -, i3, -⟩ := HR4.out.cells
  obtain ⟨-, -, -, j3, -⟩ := (HR4.out.kept hq5).cells
  obtain ⟨k0, k1, k2, k3, k4⟩ := HR5.out.cells
  clear hb4' hq5 hq6 hq7 hq8 HR1 HX1 HF1 HF2 HF3 HB1 HB4 HR4 HCG
  have d0 := cell_kept HB5.out HY0.out
  have HSS : Hid (∀ W, IsBytes W o1 n1 e1 [] → Calls Try.prog 25 #[gtV 0 o1 n1 e1 0 0 0, gtV 0 none 0 0 0 0 0] W fun e w' => e = .returned (.bool true) ∧ Below W.heap.size W w') := Hid.mk (fun W h => sameGetter_true o1 none n1 0 e1 0 [] 0 0 0 0 W h ⟨rfl, Nat.le_refl _, Nat.zero_le _, fun _ => rfl, fun y hy => by cases hy⟩)
  unfold gtV at HSS
  have hn2 : n2 = 0 := HE2.out.1.symm
  subst hn2
  have hn3 : n3 = 0 := HE3.out.1.symm
  subst hn3
  obtain ⟨x0, x1, x2, x3, x4⟩ := HX5.out.cells
  go_wp2_with fail
  refine (HSS.out _ HE1.out).mono ?_
  rintro e w6 ⟨rfl, hb6⟩
  have HB6 := Hid.mk (bl2 HB5.out hb6)
  clear hb6 HB5 HSS x0 x1 x2 x3 x4 k0 k1 k2 k3 k4 i3 j3
  go_wp2_with fail
  go_ret
  exact ⟨by first | rfl | simp, HB6.out⟩
set_option maxHeartbeats 8000000 in
set_option maxRecDepth 100000 in
theorem pget_one_lenA (want : Int) (a : Option Addr) (n cap : Nat) (next block left : Int) (y : Addr) (m mc : Nat) (dt p : List UInt8) (w : World) (hG : IsBytes w a n cap dt) (hP : IsBytes w (some y) m mc p) (hX : getX want next block left dt p = badX 4) (hE : gtE n want next block left = 0) (c0 : Nat) (hc0 : c0 < 256) (hm1 : 1 ≤ m) (hm8 : m ≤ 8) (hy : w.cell? y = some (.int .u8 (c0 : Int))) (hmc : mc = 1) (hk : 1 ≤ c0 ∧ c0 ≤ 7) (hs : m ≠ c0 + 1) :
    Calls Try.prog 5 #[gtV want a n cap next block left, .slice (some y) m mc] w fun e w' => e = .returned (.bool true) ∧ Below w.heap.size w w' := by
  have hB0 := awG w (gtC want a n cap next block left)
  have HGT := Hid.mk (get_any want a n cap next block left (some y) m mc dt p _ (isBytes_below hG hB0) (isBytes_below hP hB0))
  rw [hX] at HGT
  have HCL := Hid.mk (fun W => lcheckGetter_any a n cap want next block left W (Nat.le_trans hG.2.1 hG.2.2.1))
  have HCG := Hid.mk (fun W => checkGetter_any a n cap want next block left W (Nat.le_trans hG.2.1 hG.2.2.1))
  have hPT := fun W => parted_any W
  have HR := Hid.mk (Row5.new w 44 (.int .i64 want) (.slice a n cap) (.int .i64 next) (.int .i64 block) (.int .i64 left))
  have HB := Hid.mk hB0
  have HGG := Hid.mk hG
  have HPP := Hid.mk hP
  have hml : (m : Int) ≤ 9223372036854775807 := by have := hP.2.1; have := hP.2.2.1; unfold maxLen at this; omega
  rw [hE] at HCL HCG
  have hbl := (gtE_ok hE).1.2.1
  have hm0 : ((m : Int) == 0) = false := by simp; omega
  have hm8' : ¬ ((8 : Int) < (m : Int)) := by omega
  have hm8i : (m : Int) ≤ 8 := by omega
  have hmp : 0 < m := by omega
  have hmpi : (0 : Int) < (m : Int) := by omega
  have hc0i : (c0 : Int) ≤ 255 := by omega
  have HY0 := Hid.mk hy
  have q1 : (c0 : Int) < 16 := by omega
  have q4 : ((c0 : Int) == 0) = false := by simp; omega
  have q5 : ¬ ((7 : Int) < (c0 : Int)) := by omega
  have q6 : ((m : Int) != (c0 : Int) + 1) = true := by simp; omega
  clear hk hs
  have hmm : m = 1 := by have := hP.2.1; omega
  subst hmm
  subst hmc
  have q6' : ((1 : Int) != (c0 : Int) + 1) = true := by simp; simp at q4; omega
  clear q6
  clear hbl
  clear hG hP hE hy hm8 hc0
  unfold gtC at HB HGT
  unfold gtV at HGT HCL HCG ⊢
  clear hB0 hX
  go_enter Try.func5, Try.ntmps5
  go_wp2_with fail
  refine HGT.out.mono ?_
  rintro e w1 ⟨o1, n1, e1, o2, n2, e2, o3, n3, e3, rfl, hf1, hf2, hf3, -, hb1⟩
  unfold gtV
  unfold badX at *
  simp only at *
  have hba := awG w1 (.cells #[.int .i64 0, .slice o1 n1 e1, .int .i64 0, .int .i64 0, .int .i64 0] 44)
  have hbb := bl2 hb1 hba
  have HB1 := Hid.mk (bl2 HB.out hbb)
  have HR1 := Hid.mk (HR.out.kept hbb)
  have HX1 := Hid.mk (Row5.new w1 44 (.int .i64 0) (.slice o1 n1 e1) (.int .i64 0) (.int .i64 0) (.int .i64 0))
  have HF1 := Hid.mk (isBytes_below hf1.1 hba)
  have HF2 := Hid.mk (isBytes_below hf2.1 hba)
  have HF3 := Hid.mk (isBytes_below hf3.1 hba)
  obtain ⟨a0, a1, a2, a3, a4⟩ := HR1.out.cells
  clear hf1 hf2 hf3 hb1 hba hbb HB HR HGT
  go_wp2_with fail
  generalize w1.alloc (.cells #[.int .i64 0, .slice o1 n1 e1, .int .i64 0, .int .i64 0, .int .i64 0] 44) = W1 at *
  generalize w1.heap.size = s1 at *
  refine (HCL.out _).mono ?_
  rintro e w2 ⟨rfl, hb2⟩
  have HB2 := Hid.mk (bl2 HB1.out hb2)
  have hb2' := hb2
  clear HCL a0 a1 a2 a3 a4
  go_wp2_with fail
  refine (hPT _).mono ?_
  rintro e w3 ⟨rfl, hb3⟩
  have hb3' := bl2 hb2' hb3
  have HB3 := Hid.mk (bl2 HB1.out hb3')
  obtain ⟨a0, a1, a2, a3, a4⟩ := (HR1.out.kept hb3').cells
  clear hb2 hb2' hb3 HB2
  go_wp2_with fail
  refine (HCG.out _).mono ?_
  rintro e w4 ⟨rfl, hb4⟩
  have hb4' := bl2 hb3' hb4
  have HR4 := Hid.mk (HR1.out.kept hb4')
  have HB4 := Hid.mk (bl2 HB1.out hb4')
  clear a0 a1 a2 a3 a4 hb4 hb3' HB3
  have hq5 := awG w4 (.cells #[.int .i64 0, .slice none 0 0, .int .i64 0, .int .i64 block, .int .i64 0] 44)
  have hq6 := awG (w4.alloc (.cells #[.int .i64 0, .slice none 0 0, .int .i64 0, .int .i64 block, .int .i64 0] 44)) (.cells #[.int .u8 48, .int .u8 (block % 256), .int .u8 0] 5)
  have hq7 := bl2 hq5 hq6
  have hq8 := bl2 hb4' hq7
  have HB5 := Hid.mk (bl2 HB4.out hq7)
  have HR5 := Hid.mk (HR4.out.kept hq7)
  have HX5 := Hid.mk (HX1.out.kept hq8)
  have HW5 := Hid.mk ((Row5.new w4 44 (.int .i64 0) (.slice none 0 0) (.int .i64 0) (.int .i64 block) (.int .i64 0)).kept hq6)
  have HE1 := Hid.mk (isBytes_below HF1.out hq8)
  have HE2 := Hid.mk (isBytes_below HF2.out hq8)
  have HE3 := Hid.mk (isBytes_below HF3.out hq8)
  have HFL : Hid ((w4.alloc (.cells #[.int .i64 0, .slice none 0 0, .int .i64 0, .int .i64 block, .int .i64 0] 44)).heap.size = w4.heap.size + 1) := Hid.mk (by simp)
  obtain ⟨-, -, -, i3, -⟩ := HR4.out.cells
  obtain ⟨-, -, -, j3, -⟩ := (HR4.out.kept hq5).cells
  obtain ⟨k0, k1, k2, k3, k4⟩ := HR5.out.cells
  clear hb4' hq5 hq6 hq7 hq8 HR1 HX1 HF1 HF2 HF3 HB1 HB4 HR4 HCG
  have d0 := cell_kept HB5.out HY0.out
  have HSS : Hid (∀ W, IsBytes W o1 n1 e1 [] → Calls Try.prog 25 #[gtV 0 o1 n1 e1 0 0 0, gtV 0 none 0 0 0 0 0] W fun e w' => e = .returned (.bool true) ∧ Below W.heap.size W w') := Hid.mk (fun W h => sameGetter_true o1 none n1 0 e1 0 [] 0 0 0 0 W h ⟨rfl, Nat.le_refl _, Nat.zero_le _, fun _ => rfl, fun y hy => by cases hy⟩)
  unfold gtV at HSS
  have hn2 : n2 = 0 := HE2.out.1.symm
  subst hn2
  have hn3 : n3 = 0 := HE3.out.1.symm
  subst hn3
  obtain ⟨x0, x1, x2, x3, x4⟩ := HX5.out.cells
  go_wp2_with fail
  refine (HSS.out _ HE1.out).mono ?_
  rintro e w6 ⟨rfl, hb6⟩
  have HB6 := Hid.mk (bl2 HB5.out hb6)
  clear hb6 HB5 HSS x0 x1 x2 x3 x4 k0 k1 k2 k3 k4 i3 j3
  go_wp2_with fail
  go_ret
  exact ⟨by first | rfl | simp, HB6.out⟩
set_option maxHeartbeats 8000000 in
set_option maxRecDepth 100000 in
theorem pget_one_lenB (want : Int) (a : Option Addr) (n cap : Nat) (next block left : Int) (y : Addr) (m mc : Nat) (dt p : List UInt8) (w : World) (hG : IsBytes w a n cap dt) (hP : IsBytes w (some y) m mc p) (hX : getX want next block left dt p = badX 4) (hE : gtE n want next block left = 0) (c0 : Nat) (hc0 : c0 < 256) (hm1 : 1 ≤ m) (hm8 : m ≤ 8) (hy : w.cell? y = some (.int .u8 (c0 : Int))) (hmc : 1 < mc) (hk : 1 ≤ c0 ∧ c0 ≤ 7) (hs : m ≠ c0 + 1) :
    Calls Try.prog 5 #[gtV want a n cap next block left, .slice (some y) m mc] w fun e w' => e = .returned (.bool true) ∧ Below w.heap.size w w' := by
  have hB0 := awG w (gtC want a n cap next block left)
  have HGT := Hid.mk (get_any want a n cap next block left (some y) m mc dt p _ (isBytes_below hG hB0) (isBytes_below hP hB0))
  rw [hX] at HGT
  have HCL := Hid.mk (fun W => lcheckGetter_any a n cap want next block left W (Nat.le_trans hG.2.1 hG.2.2.1))
  have HCG := Hid.mk (fun W => checkGetter_any a n cap want next block left W (Nat.le_trans hG.2.1 hG.2.2.1))
  have hPT := fun W => parted_any W
  have HR := Hid.mk (Row5.new w 44 (.int .i64 want) (.slice a n cap) (.int .i64 next) (.int .i64 block) (.int .i64 left))
  have HB := Hid.mk hB0
  have HGG := Hid.mk hG
  have HPP := Hid.mk hP
  have hml : (m : Int) ≤ 9223372036854775807 := by have := hP.2.1; have := hP.2.2.1; unfold maxLen at this; omega
  rw [hE] at HCL HCG
  have hbl := (gtE_ok hE).1.2.1
  have hm0 : ((m : Int) == 0) = false := by simp; omega
  have hm8' : ¬ ((8 : Int) < (m : Int)) := by omega
  have hm8i : (m : Int) ≤ 8 := by omega
  have hmp : 0 < m := by omega
  have hmpi : (0 : Int) < (m : Int) := by omega
  have hc0i : (c0 : Int) ≤ 255 := by omega
  have HY0 := Hid.mk hy
  have q1 : (c0 : Int) < 16 := by omega
  have q4 : ((c0 : Int) == 0) = false := by simp; omega
  have q5 : ¬ ((7 : Int) < (c0 : Int)) := by omega
  have q6 : ((m : Int) != (c0 : Int) + 1) = true := by simp; omega
  clear hk hs
  have hmcn : ¬ mc = 1 := by omega
  have hmci : (1 : Int) < (mc : Int) := by omega
  have hm1i : (1 : Int) ≤ (m : Int) := by omega
  have hm1n : 1 ≤ m := by omega
  clear hbl
  clear hG hP hE hy hm8 hc0
  unfold gtC at HB HGT
  unfold gtV at HGT HCL HCG ⊢
  clear hB0 hX
  go_enter Try.func5, Try.ntmps5
  go_wp2_with fail
  refine HGT.out.mono ?_
  rintro e w1 ⟨o1, n1, e1, o2, n2, e2, o3, n3, e3, rfl, hf1, hf2, hf3, -, hb1⟩
  unfold gtV
  unfold badX at *
  simp only at *
  have hba := awG w1 (.cells #[.int .i64 0, .slice o1 n1 e1, .int .i64 0, .int .i64 0, .int .i64 0] 44)
  have hbb := bl2 hb1 hba
  have HB1 := Hid.mk (bl2 HB.out hbb)
  have HR1 := Hid.mk (HR.out.kept hbb)
  have HX1 := Hid.mk (Row5.new w1 44 (.int .i64 0) (.slice o1 n1 e1) (.int .i64 0) (.int .i64 0) (.int .i64 0))
  have HF1 := Hid.mk (isBytes_below hf1.1 hba)
  have HF2 := Hid.mk (isBytes_below hf2.1 hba)
  have HF3 := Hid.mk (isBytes_below hf3.1 hba)
  obtain ⟨a0, a1, a2, a3, a4⟩ := HR1.out.cells
  clear hf1 hf2 hf3 hb1 hba hbb HB HR HGT
  go_wp2_with fail
  generalize w1.alloc (.cells #[.int .i64 0, .slice o1 n1 e1, .int .i64 0, .int .i64 0, .int .i64 0] 44) = W1 at *
  generalize w1.heap.size = s1 at *
  refine (HCL.out _).mono ?_
  rintro e w2 ⟨rfl, hb2⟩
  have HB2 := Hid.mk (bl2 HB1.out hb2)
  have hb2' := hb2
  clear HCL a0 a1 a2 a3 a4
  go_wp2_with fail
  refine (hPT _).mono ?_
  rintro e w3 ⟨rfl, hb3⟩
  have hb3' := bl2 hb2' hb3
  have HB3 := Hid.mk (bl2 HB1.out hb3')
  obtain ⟨a0, a1, a2, a3, a4⟩ := (HR1.out.kept hb3').cells
  clear hb2 hb2' hb3 HB2
  go_wp2_with fail
  refine (HCG.out _).mono ?_
  rintro e w4 ⟨rfl, hb4⟩
  have hb4' := bl2 hb3' hb4
  have HR4 := Hid.mk (HR1.out.kept hb4')
  have HB4 := Hid.mk (bl2 HB1.out hb4')
  clear a0 a1 a2 a3 a4 hb4 hb3' HB3
  have hq5 := awG w4 (.cells #[.int .i64 0, .slice none 0 0, .int .i64 0, .int .i64 block, .int .i64 0] 44)
  have hq6 := awG (w4.alloc (.cells #[.int .i64 0, .slice none 0 0, .int .i64 0, .int .i64 block, .int .i64 0] 44)) (.cells #[.int .u8 48, .int .u8 (block % 256), .int .u8 0] 5)
  have hq7 := bl2 hq5 hq6
  have hq8 := bl2 hb4' hq7
  have HB5 := Hid.mk (bl2 HB4.out hq7)
  have HR5 := Hid.mk (HR4.out.kept hq7)
  have HX5 := Hid.mk (HX1.out.kept hq8)
  have HW5 := Hid.mk ((Row5.new w4 44 (.int .i64 0) (.slice none 0 0) (.int .i64 0) (.int .i64 block) (.int .i64 0)).kept hq6)
  have HE1 := Hid.mk (isBytes_below HF1.out hq8)
  have HE2 := Hid.mk (isBytes_below HF2.out hq8)
  have HE3 := Hid.mk (isBytes_below HF3.out hq8)
  have HFL : Hid ((w4.alloc (.cells #[.int .i64 0, .slice none 0 0, .int .i64 0, .int .i64 block, .int .i64 0] 44)).heap.size = w4.heap.size + 1) := Hid.mk (by simp)
  obtain ⟨-, -, -, i3, -⟩ := HR4.out.cells
  obtain ⟨-, -, -, j3, -⟩ := (HR4.out.kept hq5).cells
  obtain ⟨k0, k1, k2, k3, k4⟩ := HR5.out.cells
  clear hb4' hq5 hq6 hq7 hq8 HR1 HX1 HF1 HF2 HF3 HB1 HB4 HR4 HCG
  have d0 := cell_kept HB5.out HY0.out
  have HSS : Hid (∀ W, IsBytes W o1 n1 e1 [] → Calls Try.prog 25 #[gtV 0 o1 n1 e1 0 0 0, gtV 0 none 0 0 0 0 0] W fun e w' => e = .returned (.bool true) ∧ Below W.heap.size W w') := Hid.mk (fun W h => sameGetter_true o1 none n1 0 e1 0 [] 0 0 0 0 W h ⟨rfl, Nat.le_refl _, Nat.zero_le _, fun _ => rfl, fun y hy => by cases hy⟩)
  unfold gtV at HSS
  have hn2 : n2 = 0 := HE2.out.1.symm
  subst hn2
  have hn3 : n3 = 0 := HE3.out.1.symm
  subst hn3
  obtain ⟨x0, x1, x2, x3, x4⟩ := HX5.out.cells
  go_wp2_with fail
  refine (HSS.out _ HE1.out).mono ?_
  rintro e w6 ⟨rfl, hb6⟩
  have HB6 := Hid.mk (bl2 HB5.out hb6)
  clear hb6 HB5 HSS x0 x1 x2 x3 x4 k0 k1 k2 k3 k4 i3 j3
  go_wp2_with fail
  go_ret
  exact ⟨by first | rfl | simp, HB6.out⟩
end Bw
end Go.Proofs.Ytljigcmhkjbhjaa
