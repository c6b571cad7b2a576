/- How late the next message is: the function that sched.latenessOf makes. -/
import Derived.Test.YtnhnemmddgofnaaDoorSbSmall
namespace Go.Proofs.YtnhnemmddgofnaaDoor
open Go.ChangeShapes Go.WideShapes Go.ChangeAt Go.RowKit
namespace Bw
set_option linter.unusedVariables false
theorem mod_next (k m : Nat) : (k % m + 1) % m = (k + 1) % m := by rw [Nat.mod_add_mod]
theorem wrap_small {R : Int} (h1 : -1000000000 ≤ R) (h2 : R ≤ 1000000000) : IntKind.i64.wrap R = R := by rw [IntKind.wrap_i64]; omega
set_option maxHeartbeats 4000000 in
set_option maxRecDepth 100000 in
theorem late_any (x : Tk) (b p : Nat) (a : Option Addr) (m c : Nat) (lt : List Int) (k : Nat) (w : World) (hx : okT x = true) (hL : LtAt w b p a m c lt k) (hm : m ≤ 1000) :
    Calls Tryd.prog 29 #[x.val, .pointer (some ⟨b, 0, none⟩), .pointer (some ⟨p, 0, none⟩)] w fun e w' => ∃ N : Int, e = .returned (.tuple #[.int .i64 N, .bool (!Sb.badL x lt k)]) ∧ (Sb.badL x lt k = false → N = (Sb.lateN x lt k : Nat)) ∧ LtAt w' b p a m c lt (Sb.nextK x lt k) ∧ Tch [p] w w' := by
  obtain ⟨q1, q2, q3, q4, q5, q6, q7, -⟩ := okT_n hx
  have hb := awD w (tkC x)
  have HL1 := Hid.mk (hL.kept hb)
  have HT := Hid.mk (Tch.of (gs := [p]) hb)
  have HV := Hid.mk (TkAt.new w x)
  have hlen := hL.row.len
  have hps := hL.pos.lt
  have hnp : w.heap.size ≠ p := by omega
  by_cases h0 : Sb.takesL x lt = true
  · have hj : jN x ≠ 0 ∧ m ≠ 0 := by unfold Sb.takesL at h0; rw [hlen] at h0; simpa using h0
    obtain ⟨y, rfl⟩ := hL.row.some (i := k % m) (Nat.mod_lt _ (by omega))
    have hcell := HL1.out.row.cell y rfl (k % m) (Nat.mod_lt _ (by omega))
    have hbox := HL1.out.box
    have hpos := HL1.out.pos.cell
    have hfr := HL1.out.pos.frozen
    obtain ⟨V, hV⟩ : ∃ V, V = lt.getD (k % m) 0 := ⟨_, rfl⟩
    rw [← hV] at hcell
    have HBAD : Hid (Sb.badL x lt k = decide (V < 0)) := Hid.mk (by unfold Sb.badL Sb.lv; rw [h0, hlen, ← hV]; rfl)
    have HLATE : Hid (Sb.lateN x lt k = V.toNat % (jN x + 1)) := Hid.mk (by unfold Sb.lateN Sb.lv; rw [if_pos h0, hlen, ← hV])
    have HNEXT : Hid (Sb.nextK x lt k = k + 1) := Hid.mk (by unfold Sb.nextK; rw [if_pos h0])
    obtain ⟨R, hR⟩ : ∃ R, R = V.tmod (x.ji + 1) := ⟨_, rfl⟩
    have hji : x.ji ≤ 999999 := by omega
    have hjp : 0 < x.ji := by omega
    have hR1 : R < x.ji + 1 := by rw [hR]; exact Int.tmod_lt_of_pos V (by omega)
    have hR2 : -(x.ji + 1) < R := by rw [hR]; have h1 := Int.tmod_lt_of_pos (-V) (show 0 < x.ji + 1 by omega); rw [Int.neg_tmod] at h1; omega
    have HRE : Hid (¬ V < 0 → R = ((V.toNat % (jN x + 1) : Nat) : Int)) := Hid.mk (by
      intro hv
      rw [hR, q7]
      obtain ⟨n, hn⟩ : ∃ n : Nat, V = n := ⟨V.toNat, by omega⟩
      rw [hn]
      rfl)
    have e1 : V.tmod (x.ji + 1) = R := hR.symm
    have e2 : IntKind.i64.wrap R = R := wrap_small (by omega) (by omega)
    have hK1 := mod_next k m
    have hKm := Nat.mod_lt k (show m > 0 by omega)
    obtain ⟨K, hK⟩ : ∃ K, K = k % m := ⟨_, rfl⟩
    rw [← hK] at hK1 hKm hcell hpos
    have hk2 := Nat.mod_lt (k + 1) (show m > 0 by omega)
    have e3 : ((K : Int) + 1).tmod (m : Int) = (((k + 1) % m : Nat) : Int) := by
      rw [← hK1, show ((K : Int) + 1) = ((K + 1 : Nat) : Int) by omega]
      rfl
    obtain ⟨U, hU⟩ : ∃ U : Int, U = (((k + 1) % m : Nat) : Int) := ⟨_, rfl⟩
    rw [← hU] at e3
    have e4 : IntKind.i64.wrap U = U := wrap_small (by omega) (by omega)
    have HPUT := Hid.mk (HL1.out.put (k' := k + 1) (i := U) hU)
    have HPUT0 := Hid.mk (hL.put (k' := k + 1) (i := U) hU)
    have HBW := Hid.mk (awD (w.setCell ⟨p, 0, none⟩ (.int .i64 U)) (tkC x))
    have hmm : ¬ (m : Int) = 0 := by omega
    have hmm' : ((m : Int) == 0) = false := by simpa using hmm
    have hKb : (K : Int) ≤ 1000 := by omega
    have hKlt : (K : Int) < (m : Int) := by omega
    have hm' : (m : Int) ≤ 1000 := by omega
    have HVn := Hid.mk hV
    obtain ⟨id, by_, ev, la, ji⟩ := x
    unfold tkC at HL1 HT HV hcell hbox hpos hfr HPUT HBW
    unfold Tk.val
    simp only at hji hjp hR1 hR2 e1 HL1 HT HV hcell hbox hpos hfr HPUT HBW
    have hjz : ¬ ji + 1 = 0 := by omega
    have hje : (ji == 0) = false := by rw [beq_eq_false_iff_ne]; omega
    have g4 := HV.out.c4
    simp only at g4
    have g5 : ((w.alloc (.cells #[.int .i64 id, .int .i64 by_, .int .i64 ev, .int .i64 la, .int .i64 ji] 31)).setCell ⟨p, 0, none⟩ (.int .i64 U)).cell? ⟨w.heap.size, 4, none⟩ = some (.int .i64 ji) := cell_tch HPUT.out.2 g4 (by simp; omega)
    clear hV hR hK hK1 hKm hk2 hU q1 q2 q3 q4 q5 q6 q7 hj h0 hL hx hb hlen hm
    go_enter Tryd.func29, Tryd.ntmps29
    go_wp2_with fail
    go_ret2
    refine ⟨R, ?_, ?_, ?_, ?_⟩
    · rw [HBAD.out]
      by_cases hv : V < 0
      · rw [decide_eq_true hv, decide_eq_false (show ¬ 0 ≤ V by omega)]; rfl
      · rw [decide_eq_false hv, decide_eq_true (show 0 ≤ V by omega)]; rfl
    · intro h
      rw [HBAD.out] at h
      rw [HLATE.out]
      exact HRE.out (by simpa using h)
    · rw [HNEXT.out]; exact HPUT0.out.1.kept HBW.out
    · exact HPUT0.out.2.trans (Tch.of HBW.out)
  · have hno : Sb.takesL x lt = false := by simpa using h0
    have HBAD : Hid (Sb.badL x lt k = false) := Hid.mk (by unfold Sb.badL; rw [hno]; rfl)
    have HLATE : Hid (Sb.lateN x lt k = 0) := Hid.mk (by unfold Sb.lateN; rw [hno]; rfl)
    have HNEXT : Hid (Sb.nextK x lt k = k) := Hid.mk (by unfold Sb.nextK; rw [hno]; rfl)
    have hbox := HL1.out.box
    by_cases hj0 : jN x = 0
    · have hji : x.ji = 0 := by omega
      obtain ⟨id, by_, ev, la, ji⟩ := x
      simp only at hji
      subst hji
      unfold tkC at HL1 HT HV hbox
      unfold Tk.val
      simp only at HL1 HT HV hbox
      have g4 := HV.out.c4
      simp only at g4
      clear q1 q2 q3 q4 q5 q6 q7 hj0 h0 hno hL hx hb hlen hm
      go_enter Tryd.func29, Tryd.ntmps29
      go_wp2_with fail
      go_ret2
      refine ⟨0, ?_, ?_, ?_, HT.out⟩
      · rw [HBAD.out]; rfl
      · intro h; rw [HLATE.out]; rfl
      · rw [HNEXT.out]; exact HL1.out
    · have hm0 : m = 0 := by
        unfold Sb.takesL at hno
        rw [hlen] at hno
        rcases Nat.eq_zero_or_pos m with h | h
        · exact h
        · simp [hj0, show m ≠ 0 by omega] at hno
      subst hm0
      have hji : 0 < x.ji := by omega
      obtain ⟨id, by_, ev, la, ji⟩ := x
      simp only at hji
      have hje : (ji == 0) = false := by rw [beq_eq_false_iff_ne]; omega
      unfold tkC at HL1 HT HV hbox
      unfold Tk.val
      simp only at HL1 HT HV hbox
      have g4 := HV.out.c4
      simp only at g4
      clear q1 q2 q3 q4 q5 q6 q7 hj0 h0 hno hL hx hb hlen hm
      go_enter Tryd.func29, Tryd.ntmps29
      go_wp2_with fail
      go_ret2
      refine ⟨0, ?_, ?_, ?_, HT.out⟩
      · rw [HBAD.out]; rfl
      · intro h; rw [HLATE.out]; rfl
      · rw [HNEXT.out]; exact HL1.out
end Bw
end Go.Proofs.YtnhnemmddgofnaaDoor
