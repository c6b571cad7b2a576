/- The law SchedPlay where the first checks fail. -/
import Derived.Test.YtnhnemmddgofnaaDoorL1
import Derived.Test.YtnhnemmddgofnaaDoorSbBound
import Derived.Test.YtnhnemmddgofnaaDoorDwRef
namespace Go.Proofs.YtnhnemmddgofnaaDoor
open Go.ChangeShapes Go.WideShapes Go.ChangeAt Go.RowKit
namespace Bw
open Sb (Ms Sl asks)
set_option linter.unusedVariables false
set_option maxHeartbeats 8000000 in
set_option maxRecDepth 100000 in
theorem splay_chk (aT : Option Addr) (n dT : Nat) (l : List Tk) (aF : Option Addr) (nF cF : Nat) (fs : List Int) (a : Option Addr) (m c : Nat) (lt : List Int) (en : Int) (w : World) (hT : IsTks w aT n dT l) (hF : IsNs w aF nF cF fs) (hL : IsNs w a m c lt) (hS : SizesAt w) (hR : RulesAt w) (h0 : chkT l ≠ 0) :
    Calls Tryd.prog 3 #[.slice aT n dT, .slice aF nF cF, .slice a m c, .int .i64 en] w fun e w' => e = .returned (.bool true) ∧ Below w.heap.size w w' := by
  have HP := Hid.mk (play_any aT n dT l aF nF cF fs a m c lt en w hT hF hL hS hR)
  have HT := Hid.mk hT
  have HF := Hid.mk hF
  have HL := Hid.mk hL
  have HS := Hid.mk hS
  have HR := Hid.mk hR
  have HPL := Hid.mk (fun W (hb : Below w.heap.size w W) => played_any W (HS.out.kept hb) (HR.out.kept hb))
  have HLK := Hid.mk (fun W (hb : Below w.heap.size w W) => lchk_any aT n dT l W (HT.out.kept hb))
  have HE : Hid (playE l fs lt en = chkT l) := Hid.mk (by unfold playE; rw [if_neg h0])
  rw [HE.out] at HP
  obtain ⟨E, hE⟩ : ∃ E, E = chkT l := ⟨_, rfl⟩
  rw [← hE] at HP HLK h0
  have hE0 : (E == 0) = false := by simpa using h0
  have hE1 : (E != 0) = true := by simpa using h0
  have HE0 := Hid.mk h0
  clear hE hT hF hL hS hR h0 HE
  go_enter Tryd.func3, Tryd.ntmps3
  go_wp2_with fail
  refine HP.out.mono ?_
  rintro e w1 ⟨vS, S, rfl, hpi, hb1⟩
  have HPI := Hid.mk hpi
  have HB1 := Hid.mk hb1
  clear hpi hb1 HP
  have hv := HPI.out.no HE0.out
  subst hv
  go_wp2_with fail
  refine (HLK.out _ HB1.out).mono ?_
  rintro e w2 ⟨rfl, hb2⟩
  have HB2 := Hid.mk (bl2 HB1.out hb2)
  clear hb2 HLK
  go_wp2_with fail
  go_loopw [11] (fun s11 wr => s11 = .int .i64 E ∧ Hid (Below w.heap.size w wr)) (fun _ _ => 0)
  case atStart => exact ⟨rfl, HB2⟩
  case round =>
    obtain ⟨rfl, HB⟩ := hrel
    go_wp2_with fail
    refine (HPL.out _ HB.out).mono ?_
    rintro e w5 ⟨rfl, hb5⟩
    have HB5 := Hid.mk (bl2 HB.out hb5)
    clear hb5
    go_wp2_with fail
    refine (HPL.out _ HB5.out).mono ?_
    rintro e w6 ⟨rfl, hb6⟩
    have HB6 := Hid.mk (bl2 HB5.out hb6)
    clear hb6
    go_wp2_with fail
    go_ret
    exact ⟨by simp, HB6.out⟩

set_option maxHeartbeats 8000000 in
set_option maxRecDepth 100000 in
theorem splay_len (aT : Option Addr) (n dT : Nat) (l : List Tk) (aF : Option Addr) (nF cF : Nat) (fs : List Int) (a : Option Addr) (m c : Nat) (lt : List Int) (en : Int) (w : World) (hT : IsTks w aT n dT l) (hF : IsNs w aF nF cF fs) (hL : IsNs w a m c lt) (hS : SizesAt w) (hR : RulesAt w) (h0 : chkT l = 0) (h1 : nF ≠ n ∨ 1000 < m ∨ en < 0 ∨ 1000000 < en) :
    Calls Tryd.prog 3 #[.slice aT n dT, .slice aF nF cF, .slice a m c, .int .i64 en] w fun e w' => e = .returned (.bool true) ∧ Below w.heap.size w w' := by
  have HP := Hid.mk (play_any aT n dT l aF nF cF fs a m c lt en w hT hF hL hS hR)
  have HT := Hid.mk hT
  have HF := Hid.mk hF
  have HL := Hid.mk hL
  have HS := Hid.mk hS
  have HR := Hid.mk hR
  have HPL := Hid.mk (fun W (hb : Below w.heap.size w W) => played_any W (HS.out.kept hb) (HR.out.kept hb))
  have HLK := Hid.mk (fun W (hb : Below w.heap.size w W) => lchk_any aT n dT l W (HT.out.kept hb))
  have HE : Hid (playE l fs lt en = 2) := Hid.mk (by
    have e1 := hT.len
    have e2 := hF.len
    have e3 := hL.len
    unfold playE
    rw [if_pos h0, if_neg]
    rintro ⟨q1, q2, q3⟩
    have q4 := Sb.isTm_iff.1 q3
    omega)
  rw [HE.out] at HP
  rw [h0] at HLK
  clear hT hF hL hS hR h0 HE
  by_cases c1 : nF = n
  · subst c1
    by_cases c2 : m ≤ 1000
    · have c2' : (m : Int) ≤ 1000 := by omega
      by_cases c3 : en < 0
      · have c3x : True := trivial
        clear h1 c2
        go_enter Tryd.func3, Tryd.ntmps3
        go_wp2_with fail
        refine HP.out.mono ?_
        rintro e w1 ⟨vS, S, rfl, hpi, hb1⟩
        have HPI := Hid.mk hpi
        have HB1 := Hid.mk hb1
        clear hpi hb1 HP
        have hv := HPI.out.no (by decide)
        subst hv
        go_wp2_with fail
        refine (HLK.out _ HB1.out).mono ?_
        rintro e w2 ⟨rfl, hb2⟩
        have HB2 := Hid.mk (bl2 HB1.out hb2)
        clear hb2 HLK
        go_wp2_with fail
        go_loopw [11] (fun s11 wr => s11 = .int .i64 2 ∧ Hid (Below w.heap.size w wr)) (fun _ _ => 0)
        case atStart => exact ⟨rfl, HB2⟩
        case round =>
          obtain ⟨rfl, HB⟩ := hrel
          go_wp2_with fail
          refine (HPL.out _ HB.out).mono ?_
          rintro e w5 ⟨rfl, hb5⟩
          have HB5 := Hid.mk (bl2 HB.out hb5)
          clear hb5
          go_wp2_with fail
          refine (HPL.out _ HB5.out).mono ?_
          rintro e w6 ⟨rfl, hb6⟩
          have HB6 := Hid.mk (bl2 HB5.out hb6)
          clear hb6
          go_wp2_with fail
          go_ret
          exact ⟨by simp, HB6.out⟩
      · have c3x : 1000000 < en := by omega
        clear h1 c2
        go_enter Tryd.func3, Tryd.ntmps3
        go_wp2_with fail
        refine HP.out.mono ?_
        rintro e w1 ⟨vS, S, rfl, hpi, hb1⟩
        have HPI := Hid.mk hpi
        have HB1 := Hid.mk hb1
        clear hpi hb1 HP
        have hv := HPI.out.no (by decide)
        subst hv
        go_wp2_with fail
        refine (HLK.out _ HB1.out).mono ?_
        rintro e w2 ⟨rfl, hb2⟩
        have HB2 := Hid.mk (bl2 HB1.out hb2)
        clear hb2 HLK
        go_wp2_with fail
        go_loopw [11] (fun s11 wr => s11 = .int .i64 2 ∧ Hid (Below w.heap.size w wr)) (fun _ _ => 0)
        case atStart => exact ⟨rfl, HB2⟩
        case round =>
          obtain ⟨rfl, HB⟩ := hrel
          go_wp2_with fail
          refine (HPL.out _ HB.out).mono ?_
          rintro e w5 ⟨rfl, hb5⟩
          have HB5 := Hid.mk (bl2 HB.out hb5)
          clear hb5
          go_wp2_with fail
          refine (HPL.out _ HB5.out).mono ?_
          rintro e w6 ⟨rfl, hb6⟩
          have HB6 := Hid.mk (bl2 HB5.out hb6)
          clear hb6
          go_wp2_with fail
          go_ret
          exact ⟨by simp, HB6.out⟩
    · have c2x : (1000 : Int) < (m : Int) := by omega
      clear h1 c2
      go_enter Tryd.func3, Tryd.ntmps3
      go_wp2_with fail
      refine HP.out.mono ?_
      rintro e w1 ⟨vS, S, rfl, hpi, hb1⟩
      have HPI := Hid.mk hpi
      have HB1 := Hid.mk hb1
      clear hpi hb1 HP
      have hv := HPI.out.no (by decide)
      subst hv
      go_wp2_with fail
      refine (HLK.out _ HB1.out).mono ?_
      rintro e w2 ⟨rfl, hb2⟩
      have HB2 := Hid.mk (bl2 HB1.out hb2)
      clear hb2 HLK
      go_wp2_with fail
      go_loopw [11] (fun s11 wr => s11 = .int .i64 2 ∧ Hid (Below w.heap.size w wr)) (fun _ _ => 0)
      case atStart => exact ⟨rfl, HB2⟩
      case round =>
        obtain ⟨rfl, HB⟩ := hrel
        go_wp2_with fail
        refine (HPL.out _ HB.out).mono ?_
        rintro e w5 ⟨rfl, hb5⟩
        have HB5 := Hid.mk (bl2 HB.out hb5)
        clear hb5
        go_wp2_with fail
        refine (HPL.out _ HB5.out).mono ?_
        rintro e w6 ⟨rfl, hb6⟩
        have HB6 := Hid.mk (bl2 HB5.out hb6)
        clear hb6
        go_wp2_with fail
        go_ret
        exact ⟨by simp, HB6.out⟩
  · have c1x : ((nF : Int) != (n : Int)) = true := by simp; omega
    clear h1 c1
    go_enter Tryd.func3, Tryd.ntmps3
    go_wp2_with fail
    refine HP.out.mono ?_
    rintro e w1 ⟨vS, S, rfl, hpi, hb1⟩
    have HPI := Hid.mk hpi
    have HB1 := Hid.mk hb1
    clear hpi hb1 HP
    have hv := HPI.out.no (by decide)
    subst hv
    go_wp2_with fail
    refine (HLK.out _ HB1.out).mono ?_
    rintro e w2 ⟨rfl, hb2⟩
    have HB2 := Hid.mk (bl2 HB1.out hb2)
    clear hb2 HLK
    go_wp2_with fail
    go_loopw [11] (fun s11 wr => s11 = .int .i64 2 ∧ Hid (Below w.heap.size w wr)) (fun _ _ => 0)
    case atStart => exact ⟨rfl, HB2⟩
    case round =>
      obtain ⟨rfl, HB⟩ := hrel
      go_wp2_with fail
      refine (HPL.out _ HB.out).mono ?_
      rintro e w5 ⟨rfl, hb5⟩
      have HB5 := Hid.mk (bl2 HB.out hb5)
      clear hb5
      go_wp2_with fail
      refine (HPL.out _ HB5.out).mono ?_
      rintro e w6 ⟨rfl, hb6⟩
      have HB6 := Hid.mk (bl2 HB5.out hb6)
      clear hb6
      go_wp2_with fail
      go_ret
      exact ⟨by simp, HB6.out⟩
end Bw
end Go.Proofs.YtnhnemmddgofnaaDoor
