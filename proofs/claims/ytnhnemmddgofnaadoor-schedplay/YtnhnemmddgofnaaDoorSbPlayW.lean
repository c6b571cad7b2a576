/- What sched.Play answers. -/
import Derived.Test.YtnhnemmddgofnaaDoorSbAskW
import Derived.Test.YtnhnemmddgofnaaDoorSbSend
import Derived.Test.YtnhnemmddgofnaaDoorDlCheck
namespace Go.Proofs.YtnhnemmddgofnaaDoor
open Go.ChangeShapes Go.WideShapes Go.ChangeAt Go.RowKit
namespace Bw
open Sb (Ms Sl asks)
set_option linter.unusedVariables false
theorem owns_none {w : World} {B : Nat} {v : Value} {Q : List (List Ms)} (h : OwnQ w B v Q) (h0 : Q.length = 0) : ∃ ao c, v = .slice ao 0 c ∧ c ≤ maxLen := by
  obtain ⟨vs, h1, h2, h3⟩ := h.row
  rw [h0] at h1
  rcases h1.2 with ⟨e1, e2⟩ | ⟨g, c, cur, e1, hb, hg, hnc, hcm, r⟩
  · exact ⟨none, 0, e1, Nat.zero_le _⟩
  · exact ⟨_, c, e1, hcm⟩
set_option maxHeartbeats 4000000 in
set_option maxRecDepth 100000 in
theorem send_none (aT : Option Addr) (dT : Nat) (ao : Option Addr) (n c : Nat) (w : World) (hc : c ≤ maxLen) :
    Calls Tryd.prog 20 #[.slice aT n dT, .slice ao 0 c] w fun e w' => e = .returned (.slice none 0 0) ∧ Below w.heap.size w w' := by
  have HC := Hid.mk (fun W => soonest_any ao 0 c [] 0 W ⟨rfl, Nat.zero_le _, hc, fun _ => rfl, fun y hy i hi => absurd hi (Nat.not_lt_zero _)⟩)
  have e0 : soonP (0, false) [] = (0, false) := rfl
  rw [e0] at HC
  simp only at HC
  clear e0 hc
  go_enter Tryd.func20, Tryd.ntmps20
  go_wp2_with fail
  go_loopw [5] (fun s wr => s = .slice none 0 0 ∧ Hid (Below w.heap.size w wr)) (fun _ _ => 0)
  case atStart => exact ⟨rfl, Hid.mk (Below.refl _ _)⟩
  case round =>
    obtain ⟨rfl, HB⟩ := hrel
    rename World => wo
    go_wp2_with fail
    refine (HC.out _).mono ?_
    rintro e w1 ⟨rfl, hb1⟩
    have HB1 := Hid.mk (bl2 HB.out (bl2 hb1 (awD w1 (.cells #[.int .i64 ((0 : Nat) : Int)] 3))))
    clear hb1
    go_wp2_with fail
    go_ret
    exact ⟨rfl, HB1.out⟩
/-- what error Play tells -/
def playR (l : List Tk) (fs lt : List Int) (en : Int) : Sb.AR := Sb.runT lt en.toNat (l.zip fs) [] 1000 0
def playE (l : List Tk) (fs lt : List Int) (en : Int) : Int := if chkT l = 0 then (if fs.length = l.length ∧ lt.length ≤ 1000 ∧ Sb.isTm en = true then (playR l fs lt en).1 else 2) else chkT l
/-- slots in a row -/
def noS : Sl := ⟨0, 0, 0, 0⟩
structure PlayIs (w0 w' : World) (C : Nat → Nat) (vS : Value) (S : List Sl) (Q : List (List Ms)) (E : Int) : Prop where
  no : E ≠ 0 → vS = .slice none 0 0
  play : E = 0 → Sb.Play C 0 (asks Q) S
  own : E = 0 → w'.ownsRow w0.heap.size 38 4 vS S.length (slCs C S)
  small : E = 0 → ∀ x ∈ S, x.d ≤ 2000000 ∧ x.s + C x.k ≤ 2200000
theorem own_lower {w : World} {b b' : Nat} {e : TypeId} {size : Nat} {v : Value} {n : Nat} {xs : List Value} (h : w.ownsRow b e size v n xs) (hb : b' ≤ b) : w.ownsRow b' e size v n xs := by
  obtain ⟨h1, h2⟩ := h
  refine ⟨h1, ?_⟩
  rcases h2 with h2 | ⟨g, c, cur, q1, q2, q3⟩
  · exact .inl h2
  · exact .inr ⟨g, c, cur, q1, Nat.le_trans hb q2, q3⟩
set_option maxHeartbeats 4000000 in
theorem send_any (aT : Option Addr) (n dT : Nat) (l : List Tk) (fs : List Int) (w0 w : World) (B : Nat) (e : Nat) (v : Value) (Q : List (List Ms)) (hT : IsTks w0 aT n dT l) (hl : chkT l = 0) (hS : SizesAt w0) (hR : RulesAt w0)
    (hQ : OwnQ w B v Q) (hb0 : w0.heap.size ≤ B) (hbw : B ≤ w.heap.size) (hold : Below w0.heap.size w0 w) (he : e ≤ 1000000) (hA : Sb.Asked l fs e Q) :
    Calls Tryd.prog 20 #[.slice aT n dT, v] w fun ex w' => ∃ vS S, ex = .returned vS ∧ PlayIs w0 w' (Sb.cT l) vS S Q 0 ∧ Below w0.heap.size w0 w' := by
  obtain ⟨h20, hok⟩ := chkT_ok hl
  have hn := hT.len
  have hQn : Q.length = n := hA.len.trans hn
  rcases Nat.eq_zero_or_pos n with hz | hz
  · obtain ⟨ao, c, rfl, hc⟩ := owns_none hQ (by omega)
    obtain rfl : Q = [] := List.eq_nil_of_length_eq_zero (by omega)
    refine (send_none aT dT ao n c w hc).mono ?_
    rintro ex w1 ⟨rfl, hb1⟩
    exact ⟨_, [], rfl, ⟨fun h => absurd rfl h, fun _ => Sb.Play.done 0, fun _ => World.ownsRow_nil _ _ _ _, fun _ x hx => by cases hx⟩, bl2 hold hb1⟩
  · obtain ⟨g, c, rfl, hW⟩ := WtQ.of hQ (by omega)
    rw [hQn] at hW ⊢
    refine (send_some aT n dT l w0 w g c B Q hT hok (by omega) hS hR hW hb0 hbw hold (hA.sorted hl) hA.few (fun j m hm => ?_)).mono ?_
    · have hj : j < l.length := by
        rcases Nat.lt_or_ge j l.length with h | h
        · exact h
        · rw [show Q.getD j [] = [] by simp [List.getD, List.getElem?_eq_none (show Q.length ≤ j by omega)]] at hm
          cases hm
      obtain ⟨k, hk, e1⟩ := Sb.getD_of_mem hm
      have h5 := (hA.row j hj).1 k hk
      rw [e1] at h5
      have := okT_n (hok _ (getD_memT hj))
      omega
    · rintro ex w1 ⟨vS, S, rfl, h1, h2, h3, h4⟩
      exact ⟨vS, S, rfl, ⟨fun h => absurd rfl h, fun _ => h1, fun _ => own_lower h2 hold.size, fun _ => h4⟩, h3⟩
theorem chk_same (l : List Tk) (E : Int) (h : E = chkT l) : (E != 0) = !decide (chkT l = 0) := by
  subst h
  by_cases h : chkT l = 0 <;> simp [h]
set_option maxHeartbeats 16000000 in
set_option maxRecDepth 100000 in
theorem play_any (aT : Option Addr) (n dT : Nat) (l : List Tk) (aF : Option Addr) (nF cF : Nat) (fs : List Int) (a : Option Addr) (m c : Nat) (lt : List Int) (en : Int) (w : World) (hT : IsTks w aT n dT l) (hF : IsNs w aF nF cF fs) (hL : IsNs w a m c lt) (hS : SizesAt w) (hR : RulesAt w) :
    Calls Tryd.prog 7 #[.slice aT n dT, .slice aF nF cF, .slice a m c, .int .i64 en] w fun ex w' => ∃ vS S, ex = .returned (.tuple #[vS, .int .i64 (playE l fs lt en)]) ∧ PlayIs w w' (Sb.cT l) vS S (playR l fs lt en).2 (playE l fs lt en) ∧ Below w.heap.size w w' := by
  have HCH := Hid.mk (dcheck_any aT n dT l w hT)
  have HT := Hid.mk hT
  have HF := Hid.mk hF
  have HL := Hid.mk hL
  have HS := Hid.mk hS
  have HR := Hid.mk hR
  have hln := hT.len
  have hlf := hF.len
  have hlt := hL.len
  obtain ⟨Z, hZ⟩ : ∃ Z, Z = playE l fs lt en := ⟨_, rfl⟩
  rw [← hZ]
  by_cases h0 : chkT l = 0
  · have hn20 : n ≤ 20 := by have := (chkT_ok h0).1; omega
    rw [h0] at HCH
    unfold playE at hZ
    rw [if_pos h0] at hZ
    have HC0 := Hid.mk h0
    by_cases h1 : nF = n
    · subst h1
      by_cases h2 : m ≤ 1000
      · have h2' : (m : Int) ≤ 1000 := by omega
        have HIT := Hid.mk (fun W => istime_any en W)
        cases h3 : Sb.isTm en with
        | false =>
          rw [h3] at HIT
          rw [if_neg (by rw [h3]; simp)] at hZ
          have HZ := Hid.mk hZ
          clear hZ h3 h0 hln hlf hlt hT hF hL hS hR HT HF HL h2
          go_enter Tryd.func7, Tryd.ntmps7
          go_wp2_with fail
          refine HCH.out.mono ?_
          rintro e w1 ⟨rfl, hb1⟩
          have HB1 := Hid.mk hb1
          clear hb1 HCH
          go_wp2_with fail
          refine (HIT.out _).mono ?_
          rintro e w2 ⟨rfl, rfl⟩
          go_wp2_with fail
          go_ret2
          refine ⟨.slice none 0 0, [], by rw [HZ.out]; rfl, ⟨fun _ => rfl, fun h => ?_, fun h => ?_, fun h => ?_⟩, HB1.out⟩ <;> (rw [HZ.out] at h; cases h)
        | true =>
          rw [h3] at HIT
          have hen := Sb.isTm_iff.1 h3
          obtain ⟨e, rfl⟩ : ∃ e : Nat, en = e := ⟨en.toNat, by omega⟩
          rw [if_pos ⟨by omega, by omega, h3⟩] at hZ
          have he : e ≤ 1000000 := by omega
          have HRR : Hid (playR l fs lt (e : Int) = Sb.runT lt e (l.zip fs) [] 1000 0) := Hid.mk (by unfold playR; rw [Int.toNat_natCast])
          have HZ : Hid (Z = (Sb.runT lt e (l.zip fs) [] 1000 0).1) := Hid.mk (by rw [hZ, HRR.out])
          have HAK : Hid (∀ Q, Sb.runT lt e (l.zip fs) [] 1000 0 = (0, Q) → Sb.Asked l fs e Q) := Hid.mk (fun Q h => Sb.asked_of (by omega) h)
          have HBLK : Hid (∀ x, a = some x → 0 < m → x.block < w.heap.size) := Hid.mk (fun x hx hm => by have := blkS_lt (hL.cell x hx 0 hm); rw [addS_block] at this; exact this)
          have HM := Hid.mk h2
          have HN := Hid.mk hn20
          have HE := Hid.mk he
          clear hZ h3 h0 hln hlf hlt hT hF hL hS hR h2 hen he hn20
          go_enter Tryd.func7, Tryd.ntmps7
          go_wp2_with fail
          refine HCH.out.mono ?_
          rintro ex w1 ⟨rfl, hb1⟩
          have HB1 := Hid.mk hb1
          clear hb1 HCH
          go_wp2_with fail
          refine (HIT.out _).mono ?_
          rintro ex w2 ⟨rfl, rfl⟩
          go_wp2_with fail
          refine (lateOf_any a m c lt w2 (HL.out.kept HB1.out) (fun x hx hm => Nat.lt_of_lt_of_le (HBLK.out x hx hm) HB1.out.size)).mono ?_
          rintro ex w3 ⟨b, p, rfl, hla, hgb, hgp, hpl, hb3⟩
          have HB3 := Hid.mk (bl2 HB1.out hb3)
          have HLA := Hid.mk hla
          have HP : Hid (AkP w w3 b p a m) := Hid.mk ⟨Nat.le_trans HB1.out.size hgp, hpl, blkS_lt hla.box, fun x hx hm => Nat.lt_of_lt_of_le (HBLK.out x hx hm) HB3.out.size⟩
          have HAS := Hid.mk (ask_any aT nF dT l aF cF fs b p a m c lt e w w3 HT.out HF.out (chkT_ok HC0.out).2 HN.out HM.out HE.out HP.out hla HB3.out)
          clear hla hgb hgp hpl hb3
          unfold ltV at HAS ⊢
          obtain ⟨Z2, hZ2⟩ : ∃ Z2, Z2 = Sb.runT lt e (l.zip fs) [] 1000 0 := ⟨_, rfl⟩
          rw [← hZ2] at HAS HZ HAK HRR
          have HZ2 := Hid.mk hZ2
          clear hZ2
          obtain ⟨ZE, ZQ⟩ := Z2
          have hZZ := HZ.out
          simp only at hZZ HAS
          subst hZZ
          clear HZ
          go_wp2_with fail
          refine HAS.out.mono ?_
          rintro ex w4 ⟨vO, rfl, hq, hb4, ht4⟩
          have HB4 := Hid.mk hb4
          have HQ := Hid.mk hq
          have HSZ : Hid (w3.heap.size ≤ w4.heap.size) := Hid.mk ht4.size
          clear hq hb4 ht4 HAS
          by_cases hz : Z = 0
          · subst hz
            have HSN := Hid.mk (send_any aT nF dT l fs w w4 w3.heap.size e vO ZQ HT.out HC0.out HS.out HR.out (HQ.out rfl) HB3.out.size HSZ.out HB4.out HE.out (HAK.out ZQ rfl))
            go_wp2_with fail
            refine HSN.out.mono ?_
            rintro ex w5 ⟨vS, S, rfl, hpi, hb5⟩
            have HPI := Hid.mk hpi
            have HB5 := Hid.mk hb5
            clear hpi hb5
            go_wp2_with fail
            go_ret2
            refine ⟨vS, S, rfl, ?_, HB5.out⟩
            rw [HRR.out]
            exact HPI.out
          · have hzb : (Z != 0) = true := by simpa using hz
            have HZN := Hid.mk hz
            clear hz
            go_wp2_with fail
            go_ret2
            exact ⟨.slice none 0 0, [], rfl, ⟨fun _ => rfl, fun h => absurd h HZN.out, fun h => absurd h HZN.out, fun h => absurd h HZN.out⟩, HB4.out⟩
      · have h2' : (1000 : Int) < (m : Int) := by omega
        rw [if_neg (by rw [hlt]; omega)] at hZ
        have HZ := Hid.mk hZ
        clear hZ h0 hln hlf hlt hT hF hL hS hR HT HF HL h2
        go_enter Tryd.func7, Tryd.ntmps7
        go_wp2_with fail
        refine HCH.out.mono ?_
        rintro e w1 ⟨rfl, hb1⟩
        have HB1 := Hid.mk hb1
        clear hb1 HCH
        go_wp2_with fail
        go_ret2
        refine ⟨.slice none 0 0, [], by rw [HZ.out]; rfl, ⟨fun _ => rfl, fun h => ?_, fun h => ?_, fun h => ?_⟩, HB1.out⟩ <;> (rw [HZ.out] at h; cases h)
    · have h1' : ((nF : Int) != (n : Int)) = true := by simp; omega
      rw [if_neg (by rw [hlf, hln]; omega)] at hZ
      have HZ := Hid.mk hZ
      clear hZ h0 hln hlf hlt hT hF hL hS hR HT HF HL h1
      go_enter Tryd.func7, Tryd.ntmps7
      go_wp2_with fail
      refine HCH.out.mono ?_
      rintro e w1 ⟨rfl, hb1⟩
      have HB1 := Hid.mk hb1
      clear hb1 HCH
      go_wp2_with fail
      go_ret2
      refine ⟨.slice none 0 0, [], by rw [HZ.out]; rfl, ⟨fun _ => rfl, fun h => ?_, fun h => ?_, fun h => ?_⟩, HB1.out⟩ <;> (rw [HZ.out] at h; cases h)
  · unfold playE at hZ
    rw [if_neg h0] at hZ
    have hE : (chkT l != 0) = true := by simpa using h0
    rw [← hZ] at HCH hE h0
    have HZ := Hid.mk h0
    clear hZ h0 hln hlf hlt hT hF hL hS hR HT HF HL
    go_enter Tryd.func7, Tryd.ntmps7
    go_wp2_with fail
    refine HCH.out.mono ?_
    rintro e w1 ⟨rfl, hb1⟩
    have HB1 := Hid.mk hb1
    clear hb1 HCH
    go_wp2_with fail
    go_ret2
    exact ⟨.slice none 0 0, [], rfl, ⟨fun _ => rfl, fun h => absurd h HZ.out, fun h => absurd h HZ.out, fun h => absurd h HZ.out⟩, HB1.out⟩
end Bw
end Go.Proofs.YtnhnemmddgofnaaDoor
