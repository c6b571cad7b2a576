/- The law PartSplit. -/
import Derived.Test.YtgjnfmbmndnihaaPtLed
import Derived.Test.YtgjnfmbmndnihaaPtPartsOf
namespace Go.Proofs.Ytgjnfmbmndnihaa
open Go.ChangeShapes Go.WideShapes Go.ChangeAt Go.RowKit
namespace Bw
open Bm
set_option linter.unusedVariables false
theorem partsOf_any (x : Addr) (len cap : Nat) (l : List UInt8) (w : World) (hD : IsBytes w (some x) len cap l) (h1 : 1 ≤ len) (h3 : len ≤ 300) :
    Calls Try.prog 14 #[.slice (some x) len cap] w fun e w' => ∃ g c n, e = .returned (.slice (some ⟨g, 0, none⟩) n c) ∧ n = 1 + nxN len ∧ w.heap.size ≤ g ∧ IsPts w' (some ⟨g, 0, none⟩) n c (partsL l) ∧ Below w.heap.size w w' := by
  by_cases h7 : len ≤ 7
  · exact partsOf_one x len cap l w hD h1 h7
  · exact partsOf_more x len cap l w hD (by omega) h3
theorem isBytes_nil (w : World) : IsBytes w none 0 0 [] := ⟨rfl, Nat.le_refl _, Nat.zero_le _, fun _ => rfl, fun y hy => by cases hy⟩
set_option maxHeartbeats 8000000 in
set_option maxRecDepth 100000 in
theorem psplit_bad (a : Option Addr) (len cap : Nat) (w : World) (hl : len ≤ maxLen) (hE : szP len ≠ 0) :
    Calls Try.prog 3 #[.slice a len cap] w fun e w' => e = .returned (.bool true) ∧ Below w.heap.size w w' := by
  have HSP := Hid.mk (split_bad a len cap w hl hE)
  have HBG := Hid.mk (begin_bad a len cap w hl hE)
  have hBD := fun W => badData_any a len cap W hl
  have hPT := fun W => parted_any W
  have HSS := Hid.mk (fun W => sameSender_true none none 0 0 0 0 [] 0 0 0 false W (isBytes_nil W) (isBytes_nil W))
  have hne : (szP len != 0) = true := by simpa using hE
  unfold sdV at HBG HSS
  clear hl hE
  generalize szP len = E at *
  go_enter Try.func3, Try.ntmps3
  go_wp2_with fail
  refine HSP.out.mono ?_
  rintro e w1 ⟨rfl, hw1⟩
  rw [hw1]
  clear hw1 HSP
  go_wp2_with fail
  refine HBG.out.mono ?_
  rintro e w2 ⟨rfl, hb2⟩
  have hb3 := bl2 hb2 (awG w2 (.cells #[.slice none 0 0, .int .i64 0, .int .i64 0, .int .i64 0, .bool false] 28))
  have HB3 := Hid.mk hb3
  have HR3 := Hid.mk (Row5.new w2 28 (.slice none 0 0) (.int .i64 0) (.int .i64 0) (.int .i64 0) (.bool false))
  clear hb2 hb3 HBG
  go_wp2_with fail
  refine (hBD _).mono ?_
  rintro e w4 ⟨rfl, hw4⟩
  rw [hw4]
  clear hw4 hBD
  generalize w2.alloc (.cells #[.slice none 0 0, .int .i64 0, .int .i64 0, .int .i64 0, .bool false] 28) = W3 at *
  go_wp2_with fail
  refine (hPT _).mono ?_
  rintro e w5 ⟨rfl, hb5⟩
  have HB5 := Hid.mk (bl2 HB3.out hb5)
  have HR5 := Hid.mk (HR3.out.kept hb5)
  clear hb5 HB3 HR3
  go_wp2_with fail
  refine (hPT _).mono ?_
  rintro e w6 ⟨rfl, hb6⟩
  have HB6 := Hid.mk (bl2 HB5.out hb6)
  have HR6 := Hid.mk (HR5.out.kept hb6)
  obtain ⟨a0, a1, a2, a3, a4⟩ := HR6.out.cells
  clear hb6 HB5 HR5
  go_wp2_with fail
  refine (HSS.out _).mono ?_
  rintro e w7 ⟨rfl, hb7⟩
  have HB7 := Hid.mk (bl2 HB6.out hb7)
  clear hb7 HB6 HR6 a0 a1 a2 a3 a4
  go_wp2_with fail
  go_ret
  exact ⟨rfl, HB7.out⟩
set_option maxHeartbeats 8000000 in
set_option maxRecDepth 100000 in
theorem psplit_one (x : Addr) (len cap : Nat) (l : List UInt8) (w : World) (hD : IsBytes w (some x) len cap l) (h1 : 1 ≤ len) (h3 : len ≤ 300) (h7 : len ≤ 7) :
    Calls Try.prog 3 #[.slice (some x) len cap] w fun e w' => e = .returned (.bool true) ∧ Below w.heap.size w w' := by
  have hl := Nat.le_trans hD.2.1 hD.2.2.1
  have HSP := Hid.mk (split_ok x len cap l w hD h1 h3)
  have HBG := Hid.mk (fun W (h : Below w.heap.size w W) => begin_ok x len cap l W (isBytes_below hD h) h1 h3)
  have hBD := fun W => badData_any (some x) len cap W hl
  simp only [szP_yes h1 h3] at hBD
  have hPT := fun W => parted_any W
  have HPO := Hid.mk (fun W (h : Below w.heap.size w W) => partsOf_any x len cap l W (isBytes_below hD h) h1 h3)
  have HD := Hid.mk hD
  have hlI : (len : Int) ≤ 300 := by omega
  obtain ⟨NP, hNP⟩ : ∃ NP, NP = 1 + nxN len := ⟨_, rfl⟩
  rw [← hNP] at HSP
  have HP0 : Hid (∀ W a n c, IsPts W a n c (partsL l) → ∃ gx, a = some gx ∧ ∃ y d, W.cell? gx = some (.slice (some y) (fpL l).length d) ∧ IsBytes W (some y) (fpL l).length d (fpL l)) := Hid.mk (fun W a n c h => by
    obtain ⟨-, -, -, gx, rfl, hx⟩ := h
    obtain ⟨y, d, h5, h6, -⟩ := hx 0 (by unfold partsL; simp)
    rw [add0P] at h5
    exact ⟨gx, rfl, y, d, h5, h6⟩)
  have hIN : inF len = len := by unfold inF; rw [if_pos h7]
  have hLB : lfB len = 0 := by unfold lfB; rw [if_pos h7]
  have hDE : decide (len ≤ 7) = true := by simp; exact h7
  rw [hIN, hLB, hDE] at HBG
  have hcmp : ((NP : Int) == 1) = true := by
    rw [hNP]
    rw [show nxN len = 0 by unfold nxN; rw [if_pos h7]]; rfl
  have HNP := Hid.mk hNP
  have hnp0 : 0 < NP := by omega
  have hnp1 : (0 : Int) < (NP : Int) := by omega
  unfold sdV at HBG
  clear hD hl hIN hLB hDE hNP
  generalize fpL l = FL at *
  generalize partsL l = PL at *
  go_enter Try.func3, Try.ntmps3
  go_wp2_with fail
  refine HSP.out.mono ?_
  rintro e w1 ⟨gl, cl, nl, rfl, hnl, -, hpl, -, hb1⟩
  have HPL1 := Hid.mk hpl
  have HB1 := Hid.mk hb1
  subst hnl
  clear hpl hb1 HSP
  go_wp2_with fail
  refine (HBG.out _ HB1.out).mono ?_
  rintro e w2 ⟨g, c, gp, cp, rfl, -, hY, hP, hb2⟩
  have hba := awG w2 (.cells #[.slice (some ⟨g, 0, none⟩) len c, .int .i64 (len : Int), .int .i64 1, .int .i64 0, .bool true] 28)
  have hbb := bl2 hb2 hba
  have HB3 := Hid.mk (bl2 HB1.out hbb)
  have HR3 := Hid.mk (Row5.new w2 28 (.slice (some ⟨g, 0, none⟩) len c) (.int .i64 (len : Int)) (.int .i64 1) (.int .i64 0) (.bool true))
  have HPL3 := Hid.mk (HPL1.out.kept hbb)
  have HY3 := Hid.mk (isBytes_below hY hba)
  have HP3 := Hid.mk (isBytes_below hP hba)
  clear hY hP hb2 hba hbb HBG HB1 HPL1
  go_wp2_with fail
  refine (hBD _).mono ?_
  rintro e w4 ⟨rfl, hw4⟩
  rw [hw4]
  clear hw4 hBD
  generalize w2.alloc (.cells #[.slice (some ⟨g, 0, none⟩) len c, .int .i64 (len : Int), .int .i64 1, .int .i64 0, .bool true] 28) = W3 at *
  generalize w2.heap.size = s3 at *
  go_wp2_with fail
  refine (hPT _).mono ?_
  rintro e w5 ⟨rfl, hb5⟩
  have HB5 := Hid.mk (bl2 HB3.out hb5)
  have HR5 := Hid.mk (HR3.out.kept hb5)
  have HPL5 := Hid.mk (HPL3.out.kept hb5)
  have HY5 := Hid.mk (isBytes_below HY3.out hb5)
  have HP5 := Hid.mk (isBytes_below HP3.out hb5)
  clear hb5 HB3 HR3 HPL3 HY3 HP3
  go_wp2_with fail
  refine (HPO.out _ HB5.out).mono ?_
  rintro e w6 ⟨gw, cw, nw, rfl, hnw, -, hpw, hb6⟩
  rw [← HNP.out] at hnw
  subst hnw
  have hba := awG w6 (.cells #[.slice (some x) len cap, .int .i64 (len : Int), .int .i64 1, .int .i64 0, .bool true] 28)
  have hbb := bl2 hb6 hba
  have HB7 := Hid.mk (bl2 HB5.out hbb)
  have HR7 := Hid.mk (HR5.out.kept hbb)
  have HX7 := Hid.mk (Row5.new w6 28 (.slice (some x) len cap) (.int .i64 (len : Int)) (.int .i64 1) (.int .i64 0) (.bool true))
  have HPL7 := Hid.mk (HPL5.out.kept hbb)
  have HPW7 := Hid.mk (hpw.kept hba)
  have HY7 := Hid.mk (isBytes_below HY5.out hbb)
  have HP7 := Hid.mk (isBytes_below HP5.out hbb)
  have HSM := Hid.mk (sameParts_true _ _ _ _ _ _ _ _ HPL7.out HPW7.out)
  clear hba hbb hpw hb6 HB5 HR5 HPL5 HY5 HP5 HPO
  go_wp2_with fail
  generalize w6.alloc (.cells #[.slice (some x) len cap, .int .i64 (len : Int), .int .i64 1, .int .i64 0, .bool true] 28) = W7 at *
  generalize w6.heap.size = s7 at *
  refine HSM.out.mono ?_
  rintro e w8 ⟨rfl, hb8⟩
  have HB8 := Hid.mk (bl2 HB7.out hb8)
  have HR8 := Hid.mk (HR7.out.kept hb8)
  have HX8 := Hid.mk (HX7.out.kept hb8)
  have HY8 := Hid.mk (isBytes_below HY7.out hb8)
  obtain ⟨gx, hgx, y, d, hc0, hY0⟩ := HP0.out _ _ _ _ (HPW7.out.kept hb8)
  cases hgx
  have HEQ := Hid.mk (equal_is (isBytes_below HP7.out hb8) hY0)
  clear hb8 hY0 HB7 HR7 HX7 HPL7 HPW7 HY7 HP7 HSM HP0
  go_wp2_with fail
  refine HEQ.out.mono ?_
  rintro e w9 ⟨rfl, hb9⟩
  have HB9 := Hid.mk (bl2 HB8.out hb9)
  obtain ⟨a0, a1, a2, a3, a4⟩ := (HR8.out.kept hb9).cells
  obtain ⟨b0, b1, b2, b3, b4⟩ := (HX8.out.kept hb9).cells
  have HSS := Hid.mk (sameSender_true (some ⟨g, 0, none⟩) (some x) len len c cap l (len : Int) 1 0 true w9 (isBytes_below HY8.out hb9) (isBytes_below HD.out HB9.out))
  unfold sdV at HSS
  clear hb9 hc0 HB8 HR8 HX8 HY8 HEQ
  go_wp2_with fail
  refine HSS.out.mono ?_
  rintro e w10 ⟨rfl, hb10⟩
  have HB10 := Hid.mk (bl2 HB9.out hb10)
  clear hb10 HB9 HSS a0 a1 a2 a3 a4 b0 b1 b2 b3 b4
  go_wp2_with fail
  go_ret
  exact ⟨rfl, HB10.out⟩
set_option maxHeartbeats 8000000 in
set_option maxRecDepth 100000 in
theorem psplit_more (x : Addr) (len cap : Nat) (l : List UInt8) (w : World) (hD : IsBytes w (some x) len cap l) (h1 : 1 ≤ len) (h3 : len ≤ 300) (h7 : 7 < len) :
    Calls Try.prog 3 #[.slice (some x) len cap] w fun e w' => e = .returned (.bool true) ∧ Below w.heap.size w w' := by
  have hl := Nat.le_trans hD.2.1 hD.2.2.1
  have HSP := Hid.mk (split_ok x len cap l w hD h1 h3)
  have HBG := Hid.mk (fun W (h : Below w.heap.size w W) => begin_ok x len cap l W (isBytes_below hD h) h1 h3)
  have hBD := fun W => badData_any (some x) len cap W hl
  simp only [szP_yes h1 h3] at hBD
  have hPT := fun W => parted_any W
  have HPO := Hid.mk (fun W (h : Below w.heap.size w W) => partsOf_any x len cap l W (isBytes_below hD h) h1 h3)
  have HD := Hid.mk hD
  have hlI : (len : Int) ≤ 300 := by omega
  obtain ⟨NP, hNP⟩ : ∃ NP, NP = 1 + nxN len := ⟨_, rfl⟩
  rw [← hNP] at HSP
  have HP0 : Hid (∀ W a n c, IsPts W a n c (partsL l) → ∃ gx, a = some gx ∧ ∃ y d, W.cell? gx = some (.slice (some y) (fpL l).length d) ∧ IsBytes W (some y) (fpL l).length d (fpL l)) := Hid.mk (fun W a n c h => by
    obtain ⟨-, -, -, gx, rfl, hx⟩ := h
    obtain ⟨y, d, h5, h6, -⟩ := hx 0 (by unfold partsL; simp)
    rw [add0P] at h5
    exact ⟨gx, rfl, y, d, h5, h6⟩)
  have hIN : inF len = 6 := by unfold inF; rw [if_neg (by omega)]
  have hLB : lfB len = (-1) := by unfold lfB; rw [if_neg (by omega)]
  have hDE : decide (len ≤ 7) = false := by simp; omega
  rw [hIN, hLB, hDE] at HBG
  have hcmp : ((NP : Int) == 1) = false := by
    rw [hNP]
    have : 1 ≤ nxN len := by (unfold nxN; rw [if_neg (by omega)]; omega)
    simp; omega
  have HNP := Hid.mk hNP
  have hnp0 : 0 < NP := by omega
  have hnp1 : (0 : Int) < (NP : Int) := by omega
  unfold sdV at HBG
  clear hD hl hIN hLB hDE hNP
  generalize fpL l = FL at *
  generalize partsL l = PL at *
  go_enter Try.func3, Try.ntmps3
  go_wp2_with fail
  refine HSP.out.mono ?_
  rintro e w1 ⟨gl, cl, nl, rfl, hnl, -, hpl, -, hb1⟩
  have HPL1 := Hid.mk hpl
  have HB1 := Hid.mk hb1
  subst hnl
  clear hpl hb1 HSP
  go_wp2_with fail
  refine (HBG.out _ HB1.out).mono ?_
  rintro e w2 ⟨g, c, gp, cp, rfl, -, hY, hP, hb2⟩
  have hba := awG w2 (.cells #[.slice (some ⟨g, 0, none⟩) len c, .int .i64 6, .int .i64 1, .int .i64 (-1), .bool false] 28)
  have hbb := bl2 hb2 hba
  have HB3 := Hid.mk (bl2 HB1.out hbb)
  have HR3 := Hid.mk (Row5.new w2 28 (.slice (some ⟨g, 0, none⟩) len c) (.int .i64 6) (.int .i64 1) (.int .i64 (-1)) (.bool false))
  have HPL3 := Hid.mk (HPL1.out.kept hbb)
  have HY3 := Hid.mk (isBytes_below hY hba)
  have HP3 := Hid.mk (isBytes_below hP hba)
  clear hY hP hb2 hba hbb HBG HB1 HPL1
  go_wp2_with fail
  refine (hBD _).mono ?_
  rintro e w4 ⟨rfl, hw4⟩
  rw [hw4]
  clear hw4 hBD
  generalize w2.alloc (.cells #[.slice (some ⟨g, 0, none⟩) len c, .int .i64 6, .int .i64 1, .int .i64 (-1), .bool false] 28) = W3 at *
  generalize w2.heap.size = s3 at *
  go_wp2_with fail
  refine (hPT _).mono ?_
  rintro e w5 ⟨rfl, hb5⟩
  have HB5 := Hid.mk (bl2 HB3.out hb5)
  have HR5 := Hid.mk (HR3.out.kept hb5)
  have HPL5 := Hid.mk (HPL3.out.kept hb5)
  have HY5 := Hid.mk (isBytes_below HY3.out hb5)
  have HP5 := Hid.mk (isBytes_below HP3.out hb5)
  clear hb5 HB3 HR3 HPL3 HY3 HP3
  go_wp2_with fail
  refine (HPO.out _ HB5.out).mono ?_
  rintro e w6 ⟨gw, cw, nw, rfl, hnw, -, hpw, hb6⟩
  rw [← HNP.out] at hnw
  subst hnw
  have hba := awG w6 (.cells #[.slice (some x) len cap, .int .i64 6, .int .i64 1, .int .i64 (-1), .bool false] 28)
  have hbb := bl2 hb6 hba
  have HB7 := Hid.mk (bl2 HB5.out hbb)
  have HR7 := Hid.mk (HR5.out.kept hbb)
  have HX7 := Hid.mk (Row5.new w6 28 (.slice (some x) len cap) (.int .i64 6) (.int .i64 1) (.int .i64 (-1)) (.bool false))
  have HPL7 := Hid.mk (HPL5.out.kept hbb)
  have HPW7 := Hid.mk (hpw.kept hba)
  have HY7 := Hid.mk (isBytes_below HY5.out hbb)
  have HP7 := Hid.mk (isBytes_below HP5.out hbb)
  have HSM := Hid.mk (sameParts_true _ _ _ _ _ _ _ _ HPL7.out HPW7.out)
  clear hba hbb hpw hb6 HB5 HR5 HPL5 HY5 HP5 HPO
  go_wp2_with fail
  generalize w6.alloc (.cells #[.slice (some x) len cap, .int .i64 6, .int .i64 1, .int .i64 (-1), .bool false] 28) = W7 at *
  generalize w6.heap.size = s7 at *
  refine HSM.out.mono ?_
  rintro e w8 ⟨rfl, hb8⟩
  have HB8 := Hid.mk (bl2 HB7.out hb8)
  have HR8 := Hid.mk (HR7.out.kept hb8)
  have HX8 := Hid.mk (HX7.out.kept hb8)
  have HY8 := Hid.mk (isBytes_below HY7.out hb8)
  obtain ⟨gx, hgx, y, d, hc0, hY0⟩ := HP0.out _ _ _ _ (HPW7.out.kept hb8)
  cases hgx
  have HEQ := Hid.mk (equal_is (isBytes_below HP7.out hb8) hY0)
  clear hb8 hY0 HB7 HR7 HX7 HPL7 HPW7 HY7 HP7 HSM HP0
  go_wp2_with fail
  refine HEQ.out.mono ?_
  rintro e w9 ⟨rfl, hb9⟩
  have HB9 := Hid.mk (bl2 HB8.out hb9)
  obtain ⟨a0, a1, a2, a3, a4⟩ := (HR8.out.kept hb9).cells
  obtain ⟨b0, b1, b2, b3, b4⟩ := (HX8.out.kept hb9).cells
  have HSS := Hid.mk (sameSender_true (some ⟨g, 0, none⟩) (some x) len len c cap l 6 1 (-1) false w9 (isBytes_below HY8.out hb9) (isBytes_below HD.out HB9.out))
  unfold sdV at HSS
  clear hb9 hc0 HB8 HR8 HX8 HY8 HEQ
  go_wp2_with fail
  refine HSS.out.mono ?_
  rintro e w10 ⟨rfl, hb10⟩
  have HB10 := Hid.mk (bl2 HB9.out hb10)
  clear hb10 HB9 HSS a0 a1 a2 a3 a4 b0 b1 b2 b3 b4
  go_wp2_with fail
  go_ret
  exact ⟨rfl, HB10.out⟩
theorem psplit_any (a : Option Addr) (len cap : Nat) (l : List UInt8) (w : World) (hD : IsBytes w a len cap l) :
    Calls Try.prog 3 #[.slice a len cap] w fun e w' => e = .returned (.bool true) ∧ Below w.heap.size w w' := by
  by_cases hE : szP len = 0
  · have hn := szP_ok hE
    cases a with
    | none => have := hD.2.2.2.1 rfl; omega
    | some x =>
      by_cases h7 : len ≤ 7
      · exact psplit_one x len cap l w hD hn.1 hn.2 h7
      · exact psplit_more x len cap l w hD hn.1 hn.2 (by omega)
  · exact psplit_bad a len cap w (Nat.le_trans hD.2.1 hD.2.2.1) hE
end Bw
end Go.Proofs.Ytgjnfmbmndnihaa
