/- The law PartTold: the sender is wrong, or all is sent. -/
import Derived.Test.YtgjnfmbmndnihaaPtCs
import Derived.Test.YtgjnfmbmndnihaaPtLed
import Derived.Test.YtgjnfmbmndnihaaPtTold
import Derived.Test.YtgjnfmbmndnihaaPtNext
import Derived.Test.YtgjnfmbmndnihaaPtAnewLaw
import Derived.Test.YtgjnfmbmndnihaaPtSplitLaw
namespace Go.Proofs.Ytgjnfmbmndnihaa
open Go.ChangeShapes Go.WideShapes Go.ChangeAt Go.RowKit
namespace Bw
open Bm
set_option linter.unusedVariables false
set_option maxHeartbeats 8000000 in
set_option maxRecDepth 100000 in
theorem ptold_bad (a : Option Addr) (n cap : Nat) (k next left : Int) (done : Bool) (b : Option Addr) (m mc : Nat) (l p : List UInt8) (w : World) (hD : IsBytes w a n cap l) (hP : IsBytes w b m mc p) (hE : sdE n k next left done ≠ 0) :
    Calls Try.prog 4 #[sdV a n cap k next left done, .slice b m mc] w fun e w' => e = .returned (.bool true) ∧ Below w.heap.size w w' := by
  have hB0 := awG w (sdC a n cap k next left done)
  have hlm : n ≤ maxLen := Nat.le_trans hD.2.1 hD.2.2.1
  have hmm : m ≤ maxLen := Nat.le_trans hP.2.1 hP.2.2.1
  have HTD := Hid.mk (told_bad a n cap k next left done b m mc (w.alloc (sdC a n cap k next left done)) hlm hmm hE)
  have HNX := Hid.mk (fun (W : World) (hW : Below w.heap.size w W) => next_bad a n cap k next left done W hlm hE)
  have HCL := Hid.mk (fun W => lcheckSender_any a n cap k next left done W hlm)
  have HCS := Hid.mk (fun W => checkSender_any a n cap k next left done W hlm)
  have hPT := fun W => parted_any W
  have HR := Hid.mk (Row5.new w 28 (.slice a n cap) (.int .i64 k) (.int .i64 next) (.int .i64 left) (.bool done))
  have HB := Hid.mk hB0
  have HDD := Hid.mk hD
  have hmli : (m : Int) ≤ 9223372036854775807 := by unfold maxLen at hmm; omega
  have hne : (sdE n k next left done != 0) = true := by simpa using hE
  generalize sdE n k next left done = E at *
  clear hE
  have HSZ : Hid (∀ W : World, Calls Try.prog 13 #[sdV none 0 0 0 0 0 false, sdV none 0 0 0 0 0 false] W fun e w' => e = .returned (.bool true) ∧ Below W.heap.size W w') := Hid.mk (fun W => sameSender_true none none 0 0 0 0 [] 0 0 0 false W ⟨rfl, Nat.le_refl _, Nat.zero_le _, fun _ => rfl, fun y hy => by cases hy⟩ ⟨rfl, Nat.le_refl _, Nat.zero_le _, fun _ => rfl, fun y hy => by cases hy⟩)
  unfold sdV at HSZ
  unfold sdC at HB HTD
  unfold sdV at HTD HNX HCL HCS ⊢
  clear hB0 hlm hmm hD hP
  go_enter Try.func4, Try.ntmps4
  go_wp2_with fail
  refine HTD.out.mono ?_
  rintro e w1 ⟨rfl, hb1⟩
  have hba := awG w1 (.cells #[.slice none 0 0, .int .i64 0, .int .i64 0, .int .i64 0, .bool false] 28)
  have hbb := bl2 hb1 hba
  have HB1 := Hid.mk (bl2 HB.out hbb)
  have HR1 := Hid.mk (HR.out.kept hbb)
  have HX1 := Hid.mk (Row5.new w1 28 (.slice none 0 0) (.int .i64 0) (.int .i64 0) (.int .i64 0) (.bool false))
  obtain ⟨a0, a1, a2, a3, a4⟩ := HR1.out.cells
  clear hb1 hba hbb HB HR HTD
  go_wp2_with fail
  generalize w1.alloc (.cells #[.slice none 0 0, .int .i64 0, .int .i64 0, .int .i64 0, .bool false] 28) = W1 at *
  generalize w1.heap.size = s1 at *
  refine (HNX.out _ HB1.out).mono ?_
  rintro e w2 ⟨rfl, hb2⟩
  have hba := awG w2 (.cells #[.slice none 0 0, .int .i64 0, .int .i64 0, .int .i64 0, .bool false] 28)
  have hbb := bl2 hb2 hba
  have HB2 := Hid.mk (bl2 HB1.out hbb)
  have HR2 := Hid.mk (HR1.out.kept hbb)
  have HX2 := Hid.mk (HX1.out.kept hbb)
  have HY2 := Hid.mk (Row5.new w2 28 (.slice none 0 0) (.int .i64 0) (.int .i64 0) (.int .i64 0) (.bool false))
  clear hb2 hba hbb HB1 HR1 HX1 HNX a0 a1 a2 a3 a4
  obtain ⟨a0, a1, a2, a3, a4⟩ := HR2.out.cells
  go_wp2_with fail
  generalize w2.alloc (.cells #[.slice none 0 0, .int .i64 0, .int .i64 0, .int .i64 0, .bool false] 28) = W2 at *
  generalize w2.heap.size = s2 at *
  refine (HCL.out _).mono ?_
  rintro e w3 ⟨rfl, hb3⟩
  clear HCL a0 a1 a2 a3 a4
  go_wp2_with fail
  refine (hPT _).mono ?_
  rintro e w4 ⟨rfl, hb4⟩
  have hb4' := bl2 hb3 hb4
  obtain ⟨a0, a1, a2, a3, a4⟩ := (HR2.out.kept hb4').cells
  clear hb3 hb4
  go_wp2_with fail
  refine (HCS.out _).mono ?_
  rintro e w5 ⟨rfl, hb5⟩
  have hb5' := bl2 hb4' hb5
  have HB5 := Hid.mk (bl2 HB2.out hb5')
  have HR5 := Hid.mk (HR2.out.kept hb5')
  have HX5 := Hid.mk (HX2.out.kept hb5')
  have HY5 := Hid.mk (HY2.out.kept hb5')
  clear hb4' hb5 hb5' HB2 HR2 HX2 HY2 HCS a0 a1 a2 a3 a4
  obtain ⟨x0, x1, x2, x3, x4⟩ := HX5.out.cells
  go_wp2_with fail
  refine (HSZ.out _).mono ?_
  rintro e w6 ⟨rfl, hb6⟩
  have HB6 := Hid.mk (bl2 HB5.out hb6)
  obtain ⟨y0, y1, y2, y3, y4⟩ := (HY5.out.kept hb6).cells
  clear hb6 HB5 x0 x1 x2 x3 x4
  go_wp2_with fail
  refine (HSZ.out _).mono ?_
  rintro e w7 ⟨rfl, hb7⟩
  have HB7 := Hid.mk (bl2 HB6.out hb7)
  clear hb7 HB6 y0 y1 y2 y3 y4
  go_wp2_with fail
  go_ret
  exact ⟨by first | rfl | simp, HB7.out⟩
set_option maxHeartbeats 8000000 in
set_option maxRecDepth 100000 in
theorem ptold_done_len (a : Option Addr) (n cap : Nat) (k next left : Int) (b : Option Addr) (m mc : Nat) (l p : List UInt8) (w : World) (hD : IsBytes w a n cap l) (hP : IsBytes w b m mc p) (hE : sdE n k next left true = 0) (h3 : m ≠ 3)  :
    Calls Try.prog 4 #[sdV a n cap k next left true, .slice b m mc] w fun e w' => e = .returned (.bool true) ∧ Below w.heap.size w w' := by
  have hB0 := awG w (sdC a n cap k next left true)
  have hlm : n ≤ maxLen := Nat.le_trans hD.2.1 hD.2.2.1
  have hmm : m ≤ maxLen := Nat.le_trans hP.2.1 hP.2.2.1
  have HTD := Hid.mk (told_len a n cap k next left true b m mc (w.alloc (sdC a n cap k next left true)) hlm hmm hE h3)
  have HNX := Hid.mk (fun (W : World) (hW : Below w.heap.size w W) => next_done a n cap k next left W hlm hE)
  have HCL := Hid.mk (fun W => lcheckSender_any a n cap k next left true W hlm)
  have HCS := Hid.mk (fun W => checkSender_any a n cap k next left true W hlm)
  have hPT := fun W => parted_any W
  have HR := Hid.mk (Row5.new w 28 (.slice a n cap) (.int .i64 k) (.int .i64 next) (.int .i64 left) (.bool true))
  have HB := Hid.mk hB0
  have HDD := Hid.mk hD
  have hmli : (m : Int) ≤ 9223372036854775807 := by unfold maxLen at hmm; omega
  rw [hE] at HCL HCS
  clear hE
  have HSZ : Hid (∀ W : World, Calls Try.prog 13 #[sdV none 0 0 0 0 0 false, sdV none 0 0 0 0 0 false] W fun e w' => e = .returned (.bool true) ∧ Below W.heap.size W w') := Hid.mk (fun W => sameSender_true none none 0 0 0 0 [] 0 0 0 false W ⟨rfl, Nat.le_refl _, Nat.zero_le _, fun _ => rfl, fun y hy => by cases hy⟩ ⟨rfl, Nat.le_refl _, Nat.zero_le _, fun _ => rfl, fun y hy => by cases hy⟩)
  unfold sdV at HSZ
  have hm3 : ((m : Int) != 3) = true := by simp; omega
  clear h3
  unfold sdC at HB HTD
  unfold sdV at HTD HNX HCL HCS ⊢
  clear hB0 hlm hmm hD hP
  go_enter Try.func4, Try.ntmps4
  go_wp2_with fail
  refine HTD.out.mono ?_
  rintro e w1 ⟨rfl, hb1⟩
  have hba := awG w1 (.cells #[.slice none 0 0, .int .i64 0, .int .i64 0, .int .i64 0, .bool false] 28)
  have hbb := bl2 hb1 hba
  have HB1 := Hid.mk (bl2 HB.out hbb)
  have HR1 := Hid.mk (HR.out.kept hbb)
  have HX1 := Hid.mk (Row5.new w1 28 (.slice none 0 0) (.int .i64 0) (.int .i64 0) (.int .i64 0) (.bool false))
  obtain ⟨a0, a1, a2, a3, a4⟩ := HR1.out.cells
  clear hb1 hba hbb HB HR HTD
  go_wp2_with fail
  generalize w1.alloc (.cells #[.slice none 0 0, .int .i64 0, .int .i64 0, .int .i64 0, .bool false] 28) = W1 at *
  generalize w1.heap.size = s1 at *
  refine (HNX.out _ HB1.out).mono ?_
  rintro e w2 ⟨rfl, hb2⟩
  have hba := awG w2 (.cells #[.slice none 0 0, .int .i64 0, .int .i64 0, .int .i64 0, .bool false] 28)
  have hbb := bl2 hb2 hba
  have HB2 := Hid.mk (bl2 HB1.out hbb)
  have HR2 := Hid.mk (HR1.out.kept hbb)
  have HX2 := Hid.mk (HX1.out.kept hbb)
  have HY2 := Hid.mk (Row5.new w2 28 (.slice none 0 0) (.int .i64 0) (.int .i64 0) (.int .i64 0) (.bool false))
  clear hb2 hba hbb HB1 HR1 HX1 HNX a0 a1 a2 a3 a4
  obtain ⟨a0, a1, a2, a3, a4⟩ := HR2.out.cells
  go_wp2_with fail
  generalize w2.alloc (.cells #[.slice none 0 0, .int .i64 0, .int .i64 0, .int .i64 0, .bool false] 28) = W2 at *
  generalize w2.heap.size = s2 at *
  refine (HCL.out _).mono ?_
  rintro e w3 ⟨rfl, hb3⟩
  clear HCL a0 a1 a2 a3 a4
  go_wp2_with fail
  refine (hPT _).mono ?_
  rintro e w4 ⟨rfl, hb4⟩
  have hb4' := bl2 hb3 hb4
  obtain ⟨a0, a1, a2, a3, a4⟩ := (HR2.out.kept hb4').cells
  clear hb3 hb4
  go_wp2_with fail
  refine (HCS.out _).mono ?_
  rintro e w5 ⟨rfl, hb5⟩
  have hb5' := bl2 hb4' hb5
  have HB5 := Hid.mk (bl2 HB2.out hb5')
  have HR5 := Hid.mk (HR2.out.kept hb5')
  have HX5 := Hid.mk (HX2.out.kept hb5')
  have HY5 := Hid.mk (HY2.out.kept hb5')
  clear hb4' hb5 hb5' HB2 HR2 HX2 HY2 HCS a0 a1 a2 a3 a4
  have hq5 := awG w5 (.cells #[.slice a n cap, .int .i64 k, .int .i64 next, .int .i64 left, .bool true] 28)
  have HW6 := Hid.mk (Row5.new w5 28 (.slice a n cap) (.int .i64 k) (.int .i64 next) (.int .i64 left) (.bool true))
  have HB6 := Hid.mk (bl2 HB5.out hq5)
  have HR6 := Hid.mk (HR5.out.kept hq5)
  have HX6 := Hid.mk (HX5.out.kept hq5)
  have HY6 := Hid.mk (HY5.out.kept hq5)
  obtain ⟨i0, i1, i2, i3, i4⟩ := HR5.out.cells
  obtain ⟨k0, k1, k2, k3, k4⟩ := HR6.out.cells
  clear hq5 HB5 HR5 HX5 HY5
  obtain ⟨x0, x1, x2, x3, x4⟩ := HX6.out.cells
  go_wp2_with fail
  generalize (w5.alloc (.cells #[.slice a n cap, .int .i64 k, .int .i64 next, .int .i64 left, .bool true] 28)) = W6 at *
  refine (HSZ.out _).mono ?_
  rintro e w7 ⟨rfl, hb7⟩
  have HB7 := Hid.mk (bl2 HB6.out hb7)
  have HR7 := Hid.mk (HR6.out.kept hb7)
  have HY7 := Hid.mk (HY6.out.kept hb7)
  have HW7 := Hid.mk (HW6.out.kept hb7)
  clear hb7 HB6 HR6 HX6 HY6 HW6 x0 x1 x2 x3 x4 i0 i1 i2 i3 i4 k0 k1 k2 k3 k4
  obtain ⟨k0, k1, k2, k3, k4⟩ := HR7.out.cells
  obtain ⟨y0, y1, y2, y3, y4⟩ := HY7.out.cells
  go_wp2_with fail
  refine (HSZ.out _).mono ?_
  rintro e w8 ⟨rfl, hb8⟩
  have HB8 := Hid.mk (bl2 HB7.out hb8)
  clear hb8 HB7 y0 y1 y2 y3 y4 k0 k1 k2 k3 k4
  go_wp2_with fail
  go_ret
  exact ⟨by first | rfl | simp, HB8.out⟩
set_option maxHeartbeats 8000000 in
set_option maxRecDepth 100000 in
theorem ptold_done_low (a : Option Addr) (n cap : Nat) (k next left : Int) (y : Addr) (mc : Nat) (l p : List UInt8) (w : World) (hD : IsBytes w a n cap l) (hP : IsBytes w (some y) 3 mc p) (hE : sdE n k next left true = 0) (c0 : Nat) (hc0 : c0 < 256) (hy : w.cell? y = some (.int .u8 (c0 : Int))) (hc : c0 < 48)  :
    Calls Try.prog 4 #[sdV a n cap k next left true, .slice (some y) 3 mc] w fun e w' => e = .returned (.bool true) ∧ Below w.heap.size w w' := by
  have hB0 := awG w (sdC a n cap k next left true)
  have hlm : n ≤ maxLen := Nat.le_trans hD.2.1 hD.2.2.1
  have hmm : 3 ≤ maxLen := Nat.le_trans hP.2.1 hP.2.2.1
  have HTD := Hid.mk (told_byte a n cap k next left true (some y) 3 mc (w.alloc (sdC a n cap k next left true)) hlm hmm hE y c0 hc0 rfl rfl (cell_kept hB0 hy) (by omega))
  have HNX := Hid.mk (fun (W : World) (hW : Below w.heap.size w W) => next_done a n cap k next left W hlm hE)
  have HCL := Hid.mk (fun W => lcheckSender_any a n cap k next left true W hlm)
  have HCS := Hid.mk (fun W => checkSender_any a n cap k next left true W hlm)
  have hPT := fun W => parted_any W
  have HR := Hid.mk (Row5.new w 28 (.slice a n cap) (.int .i64 k) (.int .i64 next) (.int .i64 left) (.bool true))
  have HB := Hid.mk hB0
  have HDD := Hid.mk hD
  have hmli : (3 : Int) ≤ 9223372036854775807 := by unfold maxLen at hmm; omega
  rw [hE] at HCL HCS
  clear hE
  have HSZ : Hid (∀ W : World, Calls Try.prog 13 #[sdV none 0 0 0 0 0 false, sdV none 0 0 0 0 0 false] W fun e w' => e = .returned (.bool true) ∧ Below W.heap.size W w') := Hid.mk (fun W => sameSender_true none none 0 0 0 0 [] 0 0 0 false W ⟨rfl, Nat.le_refl _, Nat.zero_le _, fun _ => rfl, fun y hy => by cases hy⟩ ⟨rfl, Nat.le_refl _, Nat.zero_le _, fun _ => rfl, fun y hy => by cases hy⟩)
  unfold sdV at HSZ
  have q1 : (c0 : Int) < 48 := by omega
  have HY0 := Hid.mk hy
  clear hc hc0 hy
  unfold sdC at HB HTD
  unfold sdV at HTD HNX HCL HCS ⊢
  clear hB0 hlm hmm hD hP
  go_enter Try.func4, Try.ntmps4
  go_wp2_with fail
  refine HTD.out.mono ?_
  rintro e w1 ⟨rfl, hb1⟩
  have hba := awG w1 (.cells #[.slice none 0 0, .int .i64 0, .int .i64 0, .int .i64 0, .bool false] 28)
  have hbb := bl2 hb1 hba
  have HB1 := Hid.mk (bl2 HB.out hbb)
  have HR1 := Hid.mk (HR.out.kept hbb)
  have HX1 := Hid.mk (Row5.new w1 28 (.slice none 0 0) (.int .i64 0) (.int .i64 0) (.int .i64 0) (.bool false))
  obtain ⟨a0, a1, a2, a3, a4⟩ := HR1.out.cells
  clear hb1 hba hbb HB HR HTD
  go_wp2_with fail
  generalize w1.alloc (.cells #[.slice none 0 0, .int .i64 0, .int .i64 0, .int .i64 0, .bool false] 28) = W1 at *
  generalize w1.heap.size = s1 at *
  refine (HNX.out _ HB1.out).mono ?_
  rintro e w2 ⟨rfl, hb2⟩
  have hba := awG w2 (.cells #[.slice none 0 0, .int .i64 0, .int .i64 0, .int .i64 0, .bool false] 28)
  have hbb := bl2 hb2 hba
  have HB2 := Hid.mk (bl2 HB1.out hbb)
  have HR2 := Hid.mk (HR1.out.kept hbb)
  have HX2 := Hid.mk (HX1.out.kept hbb)
  have HY2 := Hid.mk (Row5.new w2 28 (.slice none 0 0) (.int .i64 0) (.int .i64 0) (.int .i64 0) (.bool false))
  clear hb2 hba hbb HB1 HR1 HX1 HNX a0 a1 a2 a3 a4
  obtain ⟨a0, a1, a2, a3, a4⟩ := HR2.out.cells
  go_wp2_with fail
  generalize w2.alloc (.cells #[.slice none 0 0, .int .i64 0, .int .i64 0, .int .i64 0, .bool false] 28) = W2 at *
  generalize w2.heap.size = s2 at *
  refine (HCL.out _).mono ?_
  rintro e w3 ⟨rfl, hb3⟩
  clear HCL a0 a1 a2 a3 a4
  go_wp2_with fail
  refine (hPT _).mono ?_
  rintro e w4 ⟨rfl, hb4⟩
  have hb4' := bl2 hb3 hb4
  obtain ⟨a0, a1, a2, a3, a4⟩ := (HR2.out.kept hb4').cells
  clear hb3 hb4
  go_wp2_with fail
  refine (HCS.out _).mono ?_
  rintro e w5 ⟨rfl, hb5⟩
  have hb5' := bl2 hb4' hb5
  have HB5 := Hid.mk (bl2 HB2.out hb5')
  have HR5 := Hid.mk (HR2.out.kept hb5')
  have HX5 := Hid.mk (HX2.out.kept hb5')
  have HY5 := Hid.mk (HY2.out.kept hb5')
  clear hb4' hb5 hb5' HB2 HR2 HX2 HY2 HCS a0 a1 a2 a3 a4
  have hq5 := awG w5 (.cells #[.slice a n cap, .int .i64 k, .int .i64 next, .int .i64 left, .bool true] 28)
  have HW6 := Hid.mk (Row5.new w5 28 (.slice a n cap) (.int .i64 k) (.int .i64 next) (.int .i64 left) (.bool true))
  have HB6 := Hid.mk (bl2 HB5.out hq5)
  have HR6 := Hid.mk (HR5.out.kept hq5)
  have HX6 := Hid.mk (HX5.out.kept hq5)
  have HY6 := Hid.mk (HY5.out.kept hq5)
  obtain ⟨i0, i1, i2, i3, i4⟩ := HR5.out.cells
  obtain ⟨k0, k1, k2, k3, k4⟩ := HR6.out.cells
  clear hq5 HB5 HR5 HX5 HY5
  have d0 := cell_kept HB6.out HY0.out
  obtain ⟨x0, x1, x2, x3, x4⟩ := HX6.out.cells
  go_wp2_with fail
  generalize (w5.alloc (.cells #[.slice a n cap, .int .i64 k, .int .i64 next, .int .i64 left, .bool true] 28)) = W6 at *
  refine (HSZ.out _).mono ?_
  rintro e w7 ⟨rfl, hb7⟩
  have HB7 := Hid.mk (bl2 HB6.out hb7)
  have HR7 := Hid.mk (HR6.out.kept hb7)
  have HY7 := Hid.mk (HY6.out.kept hb7)
  have HW7 := Hid.mk (HW6.out.kept hb7)
  clear hb7 HB6 HR6 HX6 HY6 HW6 x0 x1 x2 x3 x4 i0 i1 i2 i3 i4 k0 k1 k2 k3 k4
  obtain ⟨k0, k1, k2, k3, k4⟩ := HR7.out.cells
  obtain ⟨y0, y1, y2, y3, y4⟩ := HY7.out.cells
  go_wp2_with fail
  refine (HSZ.out _).mono ?_
  rintro e w8 ⟨rfl, hb8⟩
  have HB8 := Hid.mk (bl2 HB7.out hb8)
  clear hb8 HB7 y0 y1 y2 y3 y4 k0 k1 k2 k3 k4
  go_wp2_with fail
  go_ret
  exact ⟨by first | rfl | simp, HB8.out⟩
set_option maxHeartbeats 8000000 in
set_option maxRecDepth 100000 in
theorem ptold_done_high (a : Option Addr) (n cap : Nat) (k next left : Int) (y : Addr) (mc : Nat) (l p : List UInt8) (w : World) (hD : IsBytes w a n cap l) (hP : IsBytes w (some y) 3 mc p) (hE : sdE n k next left true = 0) (c0 : Nat) (hc0 : c0 < 256) (hy : w.cell? y = some (.int .u8 (c0 : Int))) (hc : 50 < c0)  :
    Calls Try.prog 4 #[sdV a n cap k next left true, .slice (some y) 3 mc] w fun e w' => e = .returned (.bool true) ∧ Below w.heap.size w w' := by
  have hB0 := awG w (sdC a n cap k next left true)
  have hlm : n ≤ maxLen := Nat.le_trans hD.2.1 hD.2.2.1
  have hmm : 3 ≤ maxLen := Nat.le_trans hP.2.1 hP.2.2.1
  have HTD := Hid.mk (told_byte a n cap k next left true (some y) 3 mc (w.alloc (sdC a n cap k next left true)) hlm hmm hE y c0 hc0 rfl rfl (cell_kept hB0 hy) (by omega))
  have HNX := Hid.mk (fun (W : World) (hW : Below w.heap.size w W) => next_done a n cap k next left W hlm hE)
  have HCL := Hid.mk (fun W => lcheckSender_any a n cap k next left true W hlm)
  have HCS := Hid.mk (fun W => checkSender_any a n cap k next left true W hlm)
  have hPT := fun W => parted_any W
  have HR := Hid.mk (Row5.new w 28 (.slice a n cap) (.int .i64 k) (.int .i64 next) (.int .i64 left) (.bool true))
  have HB := Hid.mk hB0
  have HDD := Hid.mk hD
  have hmli : (3 : Int) ≤ 9223372036854775807 := by unfold maxLen at hmm; omega
  rw [hE] at HCL HCS
  clear hE
  have HSZ : Hid (∀ W : World, Calls Try.prog 13 #[sdV none 0 0 0 0 0 false, sdV none 0 0 0 0 0 false] W fun e w' => e = .returned (.bool true) ∧ Below W.heap.size W w') := Hid.mk (fun W => sameSender_true none none 0 0 0 0 [] 0 0 0 false W ⟨rfl, Nat.le_refl _, Nat.zero_le _, fun _ => rfl, fun y hy => by cases hy⟩ ⟨rfl, Nat.le_refl _, Nat.zero_le _, fun _ => rfl, fun y hy => by cases hy⟩)
  unfold sdV at HSZ
  have q1 : ¬ ((c0 : Int) < 48) := by omega
  have q2 : (50 : Int) < (c0 : Int) := by omega
  have HY0 := Hid.mk hy
  clear hc hc0 hy
  unfold sdC at HB HTD
  unfold sdV at HTD HNX HCL HCS ⊢
  clear hB0 hlm hmm hD hP
  go_enter Try.func4, Try.ntmps4
  go_wp2_with fail
  refine HTD.out.mono ?_
  rintro e w1 ⟨rfl, hb1⟩
  have hba := awG w1 (.cells #[.slice none 0 0, .int .i64 0, .int .i64 0, .int .i64 0, .bool false] 28)
  have hbb := bl2 hb1 hba
  have HB1 := Hid.mk (bl2 HB.out hbb)
  have HR1 := Hid.mk (HR.out.kept hbb)
  have HX1 := Hid.mk (Row5.new w1 28 (.slice none 0 0) (.int .i64 0) (.int .i64 0) (.int .i64 0) (.bool false))
  obtain ⟨a0, a1, a2, a3, a4⟩ := HR1.out.cells
  clear hb1 hba hbb HB HR HTD
  go_wp2_with fail
  generalize w1.alloc (.cells #[.slice none 0 0, .int .i64 0, .int .i64 0, .int .i64 0, .bool false] 28) = W1 at *
  generalize w1.heap.size = s1 at *
  refine (HNX.out _ HB1.out).mono ?_
  rintro e w2 ⟨rfl, hb2⟩
  have hba := awG w2 (.cells #[.slice none 0 0, .int .i64 0, .int .i64 0, .int .i64 0, .bool false] 28)
  have hbb := bl2 hb2 hba
  have HB2 := Hid.mk (bl2 HB1.out hbb)
  have HR2 := Hid.mk (HR1.out.kept hbb)
  have HX2 := Hid.mk (HX1.out.kept hbb)
  have HY2 := Hid.mk (Row5.new w2 28 (.slice none 0 0) (.int .i64 0) (.int .i64 0) (.int .i64 0) (.bool false))
  clear hb2 hba hbb HB1 HR1 HX1 HNX a0 a1 a2 a3 a4
  obtain ⟨a0, a1, a2, a3, a4⟩ := HR2.out.cells
  go_wp2_with fail
  generalize w2.alloc (.cells #[.slice none 0 0, .int .i64 0, .int .i64 0, .int .i64 0, .bool false] 28) = W2 at *
  generalize w2.heap.size = s2 at *
  refine (HCL.out _).mono ?_
  rintro e w3 ⟨rfl, hb3⟩
  clear HCL a0 a1 a2 a3 a4
  go_wp2_with fail
  refine (hPT _).mono ?_
  rintro e w4 ⟨rfl, hb4⟩
  have hb4' := bl2 hb3 hb4
  obtain ⟨a0, a1, a2, a3, a4⟩ := (HR2.out.kept hb4').cells
  clear hb3 hb4
  go_wp2_with fail
  refine (HCS.out _).mono ?_
  rintro e w5 ⟨rfl, hb5⟩
  have hb5' := bl2 hb4' hb5
  have HB5 := Hid.mk (bl2 HB2.out hb5')
  have HR5 := Hid.mk (HR2.out.kept hb5')
  have HX5 := Hid.mk (HX2.out.kept hb5')
  have HY5 := Hid.mk (HY2.out.kept hb5')
  clear hb4' hb5 hb5' HB2 HR2 HX2 HY2 HCS a0 a1 a2 a3 a4
  have hq5 := awG w5 (.cells #[.slice a n cap, .int .i64 k, .int .i64 next, .int .i64 left, .bool true] 28)
  have HW6 := Hid.mk (Row5.new w5 28 (.slice a n cap) (.int .i64 k) (.int .i64 next) (.int .i64 left) (.bool true))
  have HB6 := Hid.mk (bl2 HB5.out hq5)
  have HR6 := Hid.mk (HR5.out.kept hq5)
  have HX6 := Hid.mk (HX5.out.kept hq5)
  have HY6 := Hid.mk (HY5.out.kept hq5)
  obtain ⟨i0, i1, i2, i3, i4⟩ := HR5.out.cells
  obtain ⟨k0, k1, k2, k3, k4⟩ := HR6.out.cells
  clear hq5 HB5 HR5 HX5 HY5
  have d0 := cell_kept HB6.out HY0.out
  obtain ⟨x0, x1, x2, x3, x4⟩ := HX6.out.cells
  go_wp2_with fail
  generalize (w5.alloc (.cells #[.slice a n cap, .int .i64 k, .int .i64 next, .int .i64 left, .bool true] 28)) = W6 at *
  refine (HSZ.out _).mono ?_
  rintro e w7 ⟨rfl, hb7⟩
  have HB7 := Hid.mk (bl2 HB6.out hb7)
  have HR7 := Hid.mk (HR6.out.kept hb7)
  have HY7 := Hid.mk (HY6.out.kept hb7)
  have HW7 := Hid.mk (HW6.out.kept hb7)
  clear hb7 HB6 HR6 HX6 HY6 HW6 x0 x1 x2 x3 x4 i0 i1 i2 i3 i4 k0 k1 k2 k3 k4
  obtain ⟨k0, k1, k2, k3, k4⟩ := HR7.out.cells
  obtain ⟨y0, y1, y2, y3, y4⟩ := HY7.out.cells
  go_wp2_with fail
  refine (HSZ.out _).mono ?_
  rintro e w8 ⟨rfl, hb8⟩
  have HB8 := Hid.mk (bl2 HB7.out hb8)
  clear hb8 HB7 y0 y1 y2 y3 y4 k0 k1 k2 k3 k4
  go_wp2_with fail
  go_ret
  exact ⟨by first | rfl | simp, HB8.out⟩
set_option maxHeartbeats 8000000 in
set_option maxRecDepth 100000 in
theorem ptold_done_late (a : Option Addr) (n cap : Nat) (k next left : Int) (y : Addr) (mc : Nat) (l p : List UInt8) (w : World) (hD : IsBytes w a n cap l) (hP : IsBytes w (some y) 3 mc p) (hE : sdE n k next left true = 0) (c0 : Nat) (hc0 : c0 < 256) (hy : w.cell? y = some (.int .u8 (c0 : Int))) (hc : 48 ≤ c0 ∧ c0 ≤ 50)  :
    Calls Try.prog 4 #[sdV a n cap k next left true, .slice (some y) 3 mc] w fun e w' => e = .returned (.bool true) ∧ Below w.heap.size w w' := by
  have hB0 := awG w (sdC a n cap k next left true)
  have hlm : n ≤ maxLen := Nat.le_trans hD.2.1 hD.2.2.1
  have hmm : 3 ≤ maxLen := Nat.le_trans hP.2.1 hP.2.2.1
  have HTD := Hid.mk (told_done a n cap k next left (some y) 3 mc (w.alloc (sdC a n cap k next left true)) hlm hmm hE y c0 hc0 rfl rfl (cell_kept hB0 hy) hc)
  have HNX := Hid.mk (fun (W : World) (hW : Below w.heap.size w W) => next_done a n cap k next left W hlm hE)
  have HCL := Hid.mk (fun W => lcheckSender_any a n cap k next left true W hlm)
  have HCS := Hid.mk (fun W => checkSender_any a n cap k next left true W hlm)
  have hPT := fun W => parted_any W
  have HR := Hid.mk (Row5.new w 28 (.slice a n cap) (.int .i64 k) (.int .i64 next) (.int .i64 left) (.bool true))
  have HB := Hid.mk hB0
  have HDD := Hid.mk hD
  have hmli : (3 : Int) ≤ 9223372036854775807 := by unfold maxLen at hmm; omega
  rw [hE] at HCL HCS
  clear hE
  have HSZ : Hid (∀ W : World, Calls Try.prog 13 #[sdV none 0 0 0 0 0 false, sdV none 0 0 0 0 0 false] W fun e w' => e = .returned (.bool true) ∧ Below W.heap.size W w') := Hid.mk (fun W => sameSender_true none none 0 0 0 0 [] 0 0 0 false W ⟨rfl, Nat.le_refl _, Nat.zero_le _, fun _ => rfl, fun y hy => by cases hy⟩ ⟨rfl, Nat.le_refl _, Nat.zero_le _, fun _ => rfl, fun y hy => by cases hy⟩)
  unfold sdV at HSZ
  have q1 : ¬ ((c0 : Int) < 48) := by omega
  have q2 : ¬ ((50 : Int) < (c0 : Int)) := by omega
  have HY0 := Hid.mk hy
  clear hc hc0 hy
  unfold sdC at HB HTD
  unfold sdV at HTD HNX HCL HCS ⊢
  clear hB0 hlm hmm hD hP
  go_enter Try.func4, Try.ntmps4
  go_wp2_with fail
  refine HTD.out.mono ?_
  rintro e w1 ⟨rfl, hb1⟩
  have hba := awG w1 (.cells #[.slice none 0 0, .int .i64 0, .int .i64 0, .int .i64 0, .bool false] 28)
  have hbb := bl2 hb1 hba
  have HB1 := Hid.mk (bl2 HB.out hbb)
  have HR1 := Hid.mk (HR.out.kept hbb)
  have HX1 := Hid.mk (Row5.new w1 28 (.slice none 0 0) (.int .i64 0) (.int .i64 0) (.int .i64 0) (.bool false))
  obtain ⟨a0, a1, a2, a3, a4⟩ := HR1.out.cells
  clear hb1 hba hbb HB HR HTD
  go_wp2_with fail
  generalize w1.alloc (.cells #[.slice none 0 0, .int .i64 0, .int .i64 0, .int .i64 0, .bool false] 28) = W1 at *
  generalize w1.heap.size = s1 at *
  refine (HNX.out _ HB1.out).mono ?_
  rintro e w2 ⟨rfl, hb2⟩
  have hba := awG w2 (.cells #[.slice none 0 0, .int .i64 0, .int .i64 0, .int .i64 0, .bool false] 28)
  have hbb := bl2 hb2 hba
  have HB2 := Hid.mk (bl2 HB1.out hbb)
  have HR2 := Hid.mk (HR1.out.kept hbb)
  have HX2 := Hid.mk (HX1.out.kept hbb)
  have HY2 := Hid.mk (Row5.new w2 28 (.slice none 0 0) (.int .i64 0) (.int .i64 0) (.int .i64 0) (.bool false))
  clear hb2 hba hbb HB1 HR1 HX1 HNX a0 a1 a2 a3 a4
  obtain ⟨a0, a1, a2, a3, a4⟩ := HR2.out.cells
  go_wp2_with fail
  generalize w2.alloc (.cells #[.slice none 0 0, .int .i64 0, .int .i64 0, .int .i64 0, .bool false] 28) = W2 at *
  generalize w2.heap.size = s2 at *
  refine (HCL.out _).mono ?_
  rintro e w3 ⟨rfl, hb3⟩
  clear HCL a0 a1 a2 a3 a4
  go_wp2_with fail
  refine (hPT _).mono ?_
  rintro e w4 ⟨rfl, hb4⟩
  have hb4' := bl2 hb3 hb4
  obtain ⟨a0, a1, a2, a3, a4⟩ := (HR2.out.kept hb4').cells
  clear hb3 hb4
  go_wp2_with fail
  refine (HCS.out _).mono ?_
  rintro e w5 ⟨rfl, hb5⟩
  have hb5' := bl2 hb4' hb5
  have HB5 := Hid.mk (bl2 HB2.out hb5')
  have HR5 := Hid.mk (HR2.out.kept hb5')
  have HX5 := Hid.mk (HX2.out.kept hb5')
  have HY5 := Hid.mk (HY2.out.kept hb5')
  clear hb4' hb5 hb5' HB2 HR2 HX2 HY2 HCS a0 a1 a2 a3 a4
  have hq5 := awG w5 (.cells #[.slice a n cap, .int .i64 k, .int .i64 next, .int .i64 left, .bool true] 28)
  have HW6 := Hid.mk (Row5.new w5 28 (.slice a n cap) (.int .i64 k) (.int .i64 next) (.int .i64 left) (.bool true))
  have HB6 := Hid.mk (bl2 HB5.out hq5)
  have HR6 := Hid.mk (HR5.out.kept hq5)
  have HX6 := Hid.mk (HX5.out.kept hq5)
  have HY6 := Hid.mk (HY5.out.kept hq5)
  obtain ⟨i0, i1, i2, i3, i4⟩ := HR5.out.cells
  obtain ⟨k0, k1, k2, k3, k4⟩ := HR6.out.cells
  clear hq5 HB5 HR5 HX5 HY5
  have d0 := cell_kept HB6.out HY0.out
  obtain ⟨x0, x1, x2, x3, x4⟩ := HX6.out.cells
  go_wp2_with fail
  generalize (w5.alloc (.cells #[.slice a n cap, .int .i64 k, .int .i64 next, .int .i64 left, .bool true] 28)) = W6 at *
  refine (HSZ.out _).mono ?_
  rintro e w7 ⟨rfl, hb7⟩
  have HB7 := Hid.mk (bl2 HB6.out hb7)
  have HR7 := Hid.mk (HR6.out.kept hb7)
  have HY7 := Hid.mk (HY6.out.kept hb7)
  have HW7 := Hid.mk (HW6.out.kept hb7)
  clear hb7 HB6 HR6 HX6 HY6 HW6 x0 x1 x2 x3 x4 i0 i1 i2 i3 i4 k0 k1 k2 k3 k4
  obtain ⟨k0, k1, k2, k3, k4⟩ := HR7.out.cells
  obtain ⟨y0, y1, y2, y3, y4⟩ := HY7.out.cells
  go_wp2_with fail
  refine (HSZ.out _).mono ?_
  rintro e w8 ⟨rfl, hb8⟩
  have HB8 := Hid.mk (bl2 HB7.out hb8)
  clear hb8 HB7 y0 y1 y2 y3 y4 k0 k1 k2 k3 k4
  go_wp2_with fail
  go_ret
  exact ⟨by first | rfl | simp, HB8.out⟩
end Bw
end Go.Proofs.Ytgjnfmbmndnihaa
