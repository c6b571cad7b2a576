/- The law SchedBound: no message waits longer than is told. -/
import Derived.Test.YtnhnemmddgofnaaDoorSbWaits
import Derived.Test.YtnhnemmddgofnaaDoorDlClone
namespace Go.Proofs.YtnhnemmddgofnaaDoor
open Go.ChangeShapes Go.WideShapes Go.ChangeAt Go.RowKit
namespace Bw
open Sb (Ms Sl asks)
set_option linter.unusedVariables false
/-- what is known where Play tells no error -/
theorem play_facts {l : List Tk} {fs lt : List Int} {en : Int} (h : playE l fs lt en = 0) : chkT l = 0 ∧ Sb.Asked l fs en.toNat (playR l fs lt en).2 ∧ 0 ≤ en ∧ en ≤ 1000000 ∧ fs.length = l.length ∧ lt.length ≤ 1000 := by
  unfold playE at h
  by_cases h0 : chkT l = 0
  · rw [if_pos h0] at h
    by_cases h1 : fs.length = l.length ∧ lt.length ≤ 1000 ∧ Sb.isTm en = true
    · rw [if_pos h1] at h
      obtain ⟨h2, h3, h4⟩ := h1
      have h5 := Sb.isTm_iff.1 h4
      refine ⟨h0, Sb.asked_of (lt := lt) h2 ?_, h5.1, h5.2, h2, h3⟩
      unfold playR at h ⊢
      generalize Sb.runT lt en.toNat (l.zip fs) [] 1000 0 = Z at *
      obtain ⟨ZE, ZQ⟩ := Z
      simp only at h ⊢
      rw [h]
    · rw [if_neg h1] at h; cases h
  · rw [if_neg h0] at h; exact absurd h h0
theorem play_len {l : List Tk} {fs : List Int} {e : Nat} {Q : List (List Ms)} {S : List Sl} (hA : Sb.Asked l fs e Q) (hS : Sb.Play (Sb.cT l) 0 (asks Q) S) : S.length = Sb.lens Q ∧ S.length ≤ 1000 := by
  have h1 := hS.len
  have h2 : (asks Q).length = Sb.lens Q := Sb.asksF_len 0 Q
  have := hA.few
  omega
theorem bound_wait {l : List Tk} {fs : List Int} {e : Nat} {Q : List (List Ms)} {S : List Sl} (hl : chkT l = 0) (hA : Sb.Asked l fs e Q) (hS : Sb.Play (Sb.cT l) 0 (asks Q) S) {i : Nat} (h0 : 0 ≤ stopAt l i) : ((wtL (Sb.cT l) S i : Nat) : Int) ≤ stopAt l i := by
  obtain ⟨hR, hk⟩ := hA.run hl hS
  refine wtL_is (by omega) (fun x hx hxi => ?_) h0
  subst hxi
  exact Sb.bound_stop hl hR hk hx h0
theorem ns_own {w : World} {base : Nat} {v : Value} {C : Nat → Nat} {L : List Sl} {n : Nat} (h : w.ownsRow base 3 1 v n (wtC C L n)) : ∃ a c, v = .slice a n c ∧ (a = none → n = 0) ∧ n ≤ c ∧ c ≤ maxLen ∧ ∀ x, a = some x → ∀ i, i < n → w.cell? (x.add i) = some (.int .i64 ((wtL C L i : Nat) : Int)) := by
  rcases h.2 with ⟨h1, h2⟩ | ⟨g, c, cur, h1, hb, hg, hnc, hcm, -⟩
  · exact ⟨none, 0, by rw [h1, h2], fun _ => h2, by omega, Nat.zero_le _, fun x hx => by cases hx⟩
  · refine ⟨_, c, h1, fun e => (by cases e), hnc, hcm, fun x hx i hi => ?_⟩
    cases hx
    rw [h1] at h
    exact h.cells (g := g) rfl _ _ (wtC_at hi)
theorem stL_atS (l : List Tk) {n i : Nat} (h : i < n) : (stL l n).getD i (0, false) = (stopAt l i, fitB l i) := by simp [stL, List.getD, h]
set_option maxHeartbeats 8000000 in
set_option maxRecDepth 100000 in
theorem sbound_any (aT : Option Addr) (n dT : Nat) (l : List Tk) (aF : Option Addr) (nF cF : Nat) (fs : List Int) (a : Option Addr) (m c : Nat) (lt : List Int) (en : Int) (w : World) (hT : IsTks w aT n dT l) (hF : IsNs w aF nF cF fs) (hL : IsNs w a m c lt) (hS : SizesAt w) (hR : RulesAt w) :
    Calls Tryd.prog 5 #[.slice aT n dT, .slice aF nF cF, .slice a m c, .int .i64 en] w fun e w' => e = .returned (.bool true) ∧ Below w.heap.size w w' := by
  have HP := Hid.mk (play_any aT n dT l aF nF cF fs a m c lt en w hT hF hL hS hR)
  have HT := Hid.mk hT
  have HS := Hid.mk hS
  have HR := Hid.mk hR
  have HLN := Hid.mk hT.len
  have HFA := Hid.mk (play_facts (l := l) (fs := fs) (lt := lt) (en := en))
  generalize playE l fs lt en = Z at *
  generalize (playR l fs lt en).2 = Q at *
  clear hT hF hL hS hR
  go_enter Tryd.func5, Tryd.ntmps5
  go_wp2_with fail
  refine HP.out.mono ?_
  rintro e w1 ⟨vS, S, rfl, hpi, hb1⟩
  have HPI := Hid.mk hpi
  have HB1 := Hid.mk hb1
  clear hpi hb1 HP
  have HPL := Hid.mk (fun W (hb : Below w.heap.size w W) => played_any W (HS.out.kept hb) (HR.out.kept hb))
  by_cases hz : Z = 0
  · subst hz
    obtain ⟨h0, hA, -, -, -, -⟩ := HFA.out rfl
    have hpl := HPI.out.play rfl
    have hln := play_len hA hpl
    have hrun := hA.run h0 hpl
    obtain ⟨b, d, hv, hI, -, -⟩ := sls_own (HPI.out.own rfl)
    obtain ⟨ml, hml⟩ : ∃ ml, ml = S.length := ⟨_, rfl⟩
    rw [← hml] at hv hI hln
    subst hv
    have HI := Hid.mk hI
    have HC0 := Hid.mk h0
    have HML := Hid.mk hln.2
    have HKN := Hid.mk (fun (x : Sl) (hx : x ∈ S) => show x.k < n by have := hrun.2 x hx; rw [HLN.out] at this; exact this)
    have HSM := Hid.mk (HPI.out.small rfl)
    have HBD := Hid.mk (fun (i : Nat) (h : 0 ≤ stopAt l i) => bound_wait h0 hA hpl h)
    clear h0 hA hpl hln hrun hI hml HPI HFA
    go_wp2_with fail
    refine (HPL.out _ HB1.out).mono ?_
    rintro e w2 ⟨rfl, hb2⟩
    have HB2 := Hid.mk (bl2 HB1.out hb2)
    have HI2 := Hid.mk (HI.out.kept hb2)
    clear hb2 HPL HI
    go_wp2_with fail
    refine (waits_any aT n dT l b ml d (Sb.cT l) S w2 (HT.out.kept HB2.out) HC0.out HI2.out HML.out HKN.out HSM.out).mono ?_
    rintro e w3 ⟨vW, rfl, ho3, hb3⟩
    obtain ⟨aw, cw, rfl, hw1, hw2, hw3, hw4⟩ := ns_own ho3
    have HB3 := Hid.mk (bl2 HB2.out hb3)
    have HWC := Hid.mk hw4
    have HWN := Hid.mk hw1
    have hcw : (cw : Int) ≤ 9223372036854775807 := mlenD hw3
    have hncw : (n : Int) ≤ (cw : Int) := by omega
    have HWO := Hid.mk (worst_any aT n dT l w3 (HT.out.kept HB3.out) (HS.out.kept HB3.out) (HR.out.kept HB3.out))
    rw [HC0.out] at HWO
    clear ho3 hb3 hw1 hw2 hw3 hw4
    go_wp2_with fail
    refine HWO.out.mono ?_
    rintro e w4 ⟨b4, m4, d4, rfl, hok, -, hb4⟩
    obtain ⟨rfl, hst⟩ := hok (by first | rfl | trivial)
    have HB4 := Hid.mk (bl2 HB3.out hb4)
    have HK4 := Hid.mk hb4
    have HST := Hid.mk hst
    clear hok hst hb4 HWO
    go_wp2_with fail
    go_loopw [55] (fun i wr => ∃ k : Nat, k ≤ m4 ∧ i = .int .i64 k ∧ Hid (Below w4.heap.size w4 wr)) (fun i _ => m4 - (intOf i).toNat)
    case atStart => exact ⟨0, Nat.zero_le _, rfl, Hid.mk (Below.refl _ _)⟩
    case round =>
      obtain ⟨k, hk, rfl, HB⟩ := hrel
      rename World => wo
      by_cases hlt : k < m4
      · have hlt' : (k : Int) < (m4 : Int) := by omega
        obtain ⟨x, rfl⟩ : ∃ x, aw = some x := by
          cases aw with
          | none => exact absurd (HWN.out rfl) (by omega)
          | some x => exact ⟨x, rfl⟩
        obtain ⟨y, rfl⟩ : ∃ y, b4 = some y := by
          cases b4 with
          | none => exact absurd (HST.out.nil rfl) (by omega)
          | some y => exact ⟨y, rfl⟩
        have c0 := cell_kept HB.out (cell_kept HK4.out (HWC.out x rfl k hlt))
        have c1 := ((HST.out.kept HB.out).cell y rfl k hlt).1
        rw [stL_atS l hlt] at c1
        simp only at c1
        have hbd := HBD.out k
        generalize stopAt l k = V at *
        generalize ((wtL (Sb.cT l) S k : Nat) : Int) = U at *
        by_cases hV : 0 ≤ V
        · have hd0 : decide (0 ≤ V) = true := decide_eq_true hV
          have hUV := hbd hV
          have hd1 : decide (V < U) = false := decide_eq_false (by omega)
          clear hbd
          go_wp2_with fail
          go_quiet (fail)
          go_wp2_with fail
          go_roundw
          case rel => exact ⟨k + 1, by omega, by go_num, Hid.mk (below_drD HB.out _)⟩
          case measure => simp [intOf]; omega
        · have hd0 : decide (0 ≤ V) = false := decide_eq_false hV
          clear hbd
          go_wp2_with fail
          go_quiet (fail)
          go_wp2_with fail
          go_roundw
          case rel => exact ⟨k + 1, by omega, by go_num, Hid.mk (below_drD HB.out _)⟩
          case measure => simp [intOf]; omega
      · obtain rfl : k = m4 := by omega
        go_wp2_with fail
        go_ret
        exact ⟨rfl, bl2 HB4.out HB.out⟩
  · have hzb : (Z != 0) = true := by simpa using hz
    clear hz
    go_wp2_with fail
    refine (HPL.out _ HB1.out).mono ?_
    rintro e w2 ⟨rfl, hb2⟩
    have HB2 := Hid.mk (bl2 HB1.out hb2)
    clear hb2
    go_wp2_with fail
    refine (HPL.out _ HB2.out).mono ?_
    rintro e w3 ⟨rfl, hb3⟩
    have HB3 := Hid.mk (bl2 HB2.out hb3)
    clear hb3
    go_wp2_with fail
    go_ret
    exact ⟨rfl, HB3.out⟩
end Bw
end Go.Proofs.YtnhnemmddgofnaaDoor
