/- What route.webOf answers of right routes and a right frame. -/
import Derived.Test.YtapjiopnjfldhaaDoorA14
namespace Go.Proofs.YtapjiopnjfldhaaDoor
open Go.ChangeShapes Go.WideShapes Go.ChangeAt Go.RowKit
namespace Bw
open Bm
set_option linter.unusedVariables false
theorem info_row : (Tryd.prog.info? 23).map (fun i => (i.zero, i.size, i.bytes)) = some (some (.slice none 0 0), 1, 24) := by kernel_rfl
theorem own_uniq {w : World} {base : Nat} {e : TypeId} {size : Nat} {v : Value} {n : Nat} {xs ys : List Value} (h : w.ownsRow base e size v n xs) (g : w.ownsRow base e size v n ys) : xs = ys := by
  have hl : xs.length = ys.length := by rw [h.1, g.1]
  rcases h.2 with ⟨h1, h2⟩ | ⟨b, c, cur, h1, -⟩
  · have : xs.length = 0 := by rw [h.1, h2, Nat.zero_mul]
    rw [List.eq_nil_of_length_eq_zero this, List.eq_nil_of_length_eq_zero (l := ys) (by omega)]
  · subst h1
    apply List.ext_getElem?
    intro j
    by_cases hj : j < xs.length
    · have a1 := h.cells (g := b) rfl j xs[j] (List.getElem?_eq_getElem hj)
      have a2 := g.cells (g := b) rfl j (ys[j]'(by omega)) (List.getElem?_eq_getElem (by omega))
      rw [a1] at a2
      rw [List.getElem?_eq_getElem hj, List.getElem?_eq_getElem (by omega)]
      exact a2
    · rw [List.getElem?_eq_none (by omega), List.getElem?_eq_none (by omega)]
set_option maxHeartbeats 16000000 in
set_option maxRecDepth 100000 in
theorem webOf_any (a : Option Addr) (n c : Nat) (rs : List Rt) (bus : Int) (id : Nat) (lo fa re : Bool) (sz : Int) (fa0 : Option Addr) (len cap : Nat) (w : World) (hR : IsRts w a n c rs) (hok : ∀ k, k < n → okR (rs.getD k noR) (-1) = true) (hn : n ≤ 20) (hL : LastsAt w) (hS : SizesAt w) (hlen : len ≤ maxLen) (hG : frEn id lo fa re sz len = 0) (hbus : 0 ≤ bus ∧ bus < 4) :
    Calls Tryd.prog 46 #[.slice a n c, .int .i64 bus, frameV id lo fa re sz fa0 len cap] w fun e w' => ∃ (P : List Pl) (vP vN : Value), e = .returned (.agg #[vP, vN]) ∧ Web 100000 (nxt rs lo fa re sz len) (bus, (id : Int)) P P.length ∧ (∀ p ∈ P, frEn p.2 lo fa re sz len = 0) ∧ w'.ownsRow (w.heap.size + 5) 106 2 vP P.length (plC P) ∧ NxS w' (w.heap.size + 5) [vP] vN (nxL (nxt rs lo fa re sz len) (bus, (id : Int)) P P.length) ∧ Below w.heap.size w w' := by
  have hmm := @run_makeMap Tryd.prog
  obtain ⟨hW5, hF5, hR5, hb5, hs5⟩ := wb5_at w id lo fa re sz fa0 len cap
  have hq0 : okQ (bus, (id : Int)) := ⟨hbus, by have := frEn_idW hG; simp only; omega⟩
  have HNO := Hid.mk (numOf_any _ _ _ _ _ _ _ _ (bus, (id : Int)) _ hW5 hq0)
  have HF := Hid.mk hF5
  have HRS := Hid.mk hR5
  have HB := Hid.mk hb5
  have HSZ := Hid.mk hs5
  obtain ⟨q0, q1, q2, q3, q4, q5⟩ := hF5.fr
  unfold plV at HNO
  unfold wb5 frameC at HNO HF HRS HB HSZ q0 q1 q2 q3 q4 q5
  simp only at HNO
  unfold frameV
  clear hW5 hF5 hR5 hb5 hs5
  go_enter Tryd.func46, Tryd.ntmps46
  go_wp2_with fail
  refine HNO.out.mono ?_
  rintro e w1 ⟨rfl, v1, D1, hW1, hT1⟩
  have hs5 := HSZ.out
  rw [(addP_new (F := 100000) (P := []) (q := (bus, (id : Int))) (by simp) (by decide)).1, List.nil_append] at hW1
  have HW1 := Hid.mk hW1
  have HF1 : Hid (∃ j, Row6 w1 w.heap.size j lo fa re sz fa0 len cap) := Hid.mk ⟨id, (hT1.block _ (by omega) (by omega) (by omega) (by intro e; cases e)).trans HF.out⟩
  have HRS1 : Hid (w1.heap[w.heap.size + 1]? = some (.cells #[.slice none 0 0, .slice none 0 0] 88 (0, 0))) := Hid.mk ((hT1.block _ (by omega) (by omega) (by omega) (by intro e; cases e)).trans HRS.out)
  have HB1 := Hid.mk (NumT.below HB.out hT1 (by omega) (by omega) (by intro k e; cases e) (Nat.le_refl _))
  have HWE : Hid (Web 100000 (nxt rs lo fa re sz len) (bus, (id : Int)) [(bus, (id : Int))] 0) := Hid.mk ⟨rfl, by simp, by simp, Nat.zero_le _, (fun p hp => by rw [List.mem_singleton] at hp; subst hp; exact hq0), (fun i hi => absurd hi (Nat.not_lt_zero _)), fun i h0 hi => by simp at hi; omega⟩
  have HFE : Hid (∀ p ∈ [((bus, (id : Int)) : Pl)], frEn p.2 lo fa re sz len = 0) := Hid.mk (fun p hp => by rw [List.mem_singleton] at hp; subst hp; exact hG)
  have HRR := Hid.mk hR
  have HOK := Hid.mk hok
  have HLL := Hid.mk hL
  have HSS := Hid.mk hS
  have HLE := Hid.mk hlen
  have hn63 : (n : Int) ≤ 20 := by omega
  obtain ⟨s0, hs0⟩ : ∃ s0 : Pl, s0 = (bus, (id : Int)) := ⟨_, rfl⟩
  rw [← hs0] at HW1 HWE HFE
  have HS0 := Hid.mk hs0
  obtain ⟨nx, hnx⟩ : ∃ nx : Pl → List Pl, nx = nxt rs lo fa re sz len := ⟨_, rfl⟩
  rw [← hnx] at HWE
  have HNX := Hid.mk hnx
  have HN20 := Hid.mk hn
  clear hW1 hT1 HNO HF HRS HB HSZ q0 q1 q2 q3 q4 q5 hs5 hR hok hL hS hlen hs0 hnx hq0 hG hbus hn
  go_wp2_with fail
  go_loopw [10] (fun i wr => ∃ (k : Nat) (vP vN : Value) (P : List Pl) (D : DVp), k ≤ P.length ∧ P.length ≤ 100000 ∧ i = .int .i64 k ∧ Hid (WebS 100000 wr (w.heap.size + 5) (w.heap.size + 2) (w.heap.size + 4) (w.heap.size + 3) vP vN P D) ∧ Hid (Web 100000 nx s0 P k) ∧ Hid (∀ p ∈ P, frEn p.2 lo fa re sz len = 0) ∧ Hid (NxS wr (w.heap.size + 5) [vP] vN (nxL nx s0 P k)) ∧ Hid (∃ j, Row6 wr w.heap.size j lo fa re sz fa0 len cap) ∧ Hid (wr.heap[w.heap.size + 1]? = some (.cells #[.slice none 0 0, .slice none 0 0] 88 (0, 0))) ∧ Hid (Below w.heap.size w wr)) (fun i _ => 100000 - (intOf i).toNat)
  case atStart => exact ⟨0, v1, _, [s0], D1, Nat.zero_le _, by simp, rfl, HW1, HWE, HFE, Hid.mk (NxS.nil _ _ _), HF1, HRS1, HB1⟩
  case round =>
    clear HW1 HWE HFE HF1 HRS1 HB1
    obtain ⟨k, vP, vN, P, D, hk, hP, rfl, HW, HWE, HFE, HNS, HFR, HRS, HB⟩ := hrel
    rename World => wo
    obtain ⟨aP, cP, hvP⟩ := own_slice0 HW.out.row
    subst hvP
    obtain ⟨g0, g1, -, -⟩ := HW.out.cells
    obtain ⟨aN, nN, cN, hvN⟩ := HNS.out.slice
    subst hvN
    by_cases hlt : k < P.length
    · obtain ⟨x, hx⟩ : ∃ x, aP = some x := by
        cases aP with
        | some x => exact ⟨x, rfl⟩
        | none =>
          have hr := HW.out.row.2
          rcases hr with ⟨h1, h2⟩ | ⟨g, c', cur, h1, -⟩
          · omega
          · cases h1
      subst hx
      obtain ⟨c0, c1⟩ := pl_at2 HW.out.row hlt s0
      have hpm : P.getD k s0 ∈ P := by simp [List.getD, hlt]
      obtain ⟨pp, hpp⟩ : ∃ pp : Pl, pp = P.getD k s0 := ⟨_, rfl⟩
      rw [← hpp] at c0 c1 hpm
      obtain ⟨pb, pi⟩ := pp
      have hfp : frEn pi lo fa re sz len = 0 := HFE.out _ hpm
      obtain ⟨hp0, hp1, hp2⟩ := frEn_idW hfp
      obtain ⟨pn, rfl⟩ : ∃ pn : Nat, pi = (pn : Int) := ⟨pi.toNat, by omega⟩
      have HPP : Hid (k < P.length ∧ P.getD k s0 = (pb, (pn : Int))) := Hid.mk ⟨hlt, hpp.symm⟩
      have HFP := Hid.mk hfp
      have HPN : Hid (pn ≤ topN lo) := Hid.mk (by omega)
      obtain ⟨m, hm⟩ : ∃ m, m = P.length := ⟨_, rfl⟩
      rw [← hm] at g0 hlt hk hP
      have hlt' : (k : Int) < (m : Int) := by omega
      have hb1 := awB wo (.cells #[.int .i64 pb, .int .i64 (pn : Int)] 106)
      obtain ⟨j, hj⟩ := HFR.out
      have hj1 := hj.kept hb1
      have f0 := hj1.fr.c0
      have f1 := hj1.frozen 0
      have hws := HW.out.le
      have HW2 := Hid.mk ((HW.out.kept hb1).setB (b := w.heap.size) (i := 0) (by omega) (by omega) (by omega) (by omega) (.int .i64 (pn : Int)))
      have HN2 := Hid.mk (((HNS.out.kept hb1).setB (b := w.heap.size) (i := 0) (by omega) (.int .i64 (pn : Int))).more)
      have HF2 := Hid.mk (hj1.set0 (pn : Int))
      have HR2 : Hid (((wo.alloc (.cells #[.int .i64 pb, .int .i64 (pn : Int)] 106)).setCell ⟨w.heap.size, 0, none⟩ (.int .i64 (pn : Int))).heap[w.heap.size + 1]? = some (.cells #[.slice none 0 0, .slice none 0 0] 88 (0, 0))) := Hid.mk ((setH (by omega)).trans ((hb1.block _ (by omega)).trans HRS.out))
      have HX2 : Hid (FrmS ((wo.alloc (.cells #[.int .i64 pb, .int .i64 (pn : Int)] 106)).setCell ⟨w.heap.size, 0, none⟩ (.int .i64 (pn : Int))) wo.heap.size (pb, (pn : Int)) [.slice (some x) m cP, .slice none 0 0, .slice aN nN cN]) := Hid.mk ⟨(setH (by omega)).trans (heap_alloc_new wo _), by
        intro u hu
        simp only [List.mem_cons, List.not_mem_nil, or_false] at hu
        rcases hu with rfl | rfl | rfl
        · intro e; have h1 := (own_ge HW.out.row (by rw [← hm]; exact e)).2; omega
        · intro e; cases e
        · intro e; obtain ⟨S, h1, -⟩ := HNS.out.row; have h2 := (own_ge h1 e).2; omega⟩
      have HB2 := Hid.mk ((bl2 HB.out hb1).setCell (p := ⟨w.heap.size, 0, none⟩) (Nat.le_refl _) (.int .i64 (pn : Int)))
      have HG : Hid (w.heap.size + 5 ≤ wo.heap.size) := Hid.mk hws
      have HM := Hid.mk hm
      rw [← hm] at HW2 HN2
      clear hb1 hj hj1 HW HNS HFR HRS HB hpm hfp hp0 hp1 hp2 hpp hws
      have HME : Hid (m = P.length) := HM
      clear hm
      have HX0 : Hid (Web 100000 nx s0 P k) := HWE
      have HE0 : Hid (∀ p ∈ P, frEn p.2 lo fa re sz len = 0) := HFE
      have HVN := Hid.mk (rfl : (Value.slice aN nN cN) = Value.slice aN nN cN)
      go_wp2_with fail
      go_loopw [12, 44] (fun vq i wi => ∃ (q : Nat) (vX vP : Value) (P : List Pl) (D : DVp), q ≤ n ∧ vX = vq ∧ i = .int .i64 q ∧ Hid (WebS 100000 wi (w.heap.size + 5) (w.heap.size + 2) (w.heap.size + 4) (w.heap.size + 3) vP (.slice aN nN cN) P D) ∧ Hid (Web 100000 nx s0 P k) ∧ Hid (∀ p ∈ P, frEn p.2 lo fa re sz len = 0) ∧ Hid (k < P.length ∧ P.getD k s0 = (pb, (pn : Int))) ∧ Hid (Shut 100000 P (nxt (rs.take q) lo fa re sz len (pb, (pn : Int)))) ∧ Hid (wi.ownsRow (w.heap.size + 5) 3 1 vX (idxL P (nxt (rs.take q) lo fa re sz len (pb, (pn : Int)))).length (numC (idxL P (nxt (rs.take q) lo fa re sz len (pb, (pn : Int)))))) ∧ Hid (∀ z, vX.ownBlock = some z → vP.ownBlock ≠ some z) ∧ Hid (NxS wi (w.heap.size + 5) [vP, vX] (.slice aN nN cN) (nxL nx s0 P k)) ∧ Hid (Row6 wi w.heap.size (pn : Int) lo fa re sz fa0 len cap) ∧ Hid (wi.heap[w.heap.size + 1]? = some (.cells #[.slice none 0 0, .slice none 0 0] 88 (0, 0))) ∧ Hid (FrmS wi wo.heap.size (pb, (pn : Int)) [vP, vX, .slice aN nN cN]) ∧ Hid (Below w.heap.size w wi)) (fun _ i _ => n - (intOf i).toNat)
      case atStart => exact ⟨0, _, _, P, D, Nat.zero_le _, rfl, rfl, HW2, HX0, HE0, HPP, Hid.mk (.inr (fun q hq => by simp [nxt] at hq)), Hid.mk (by simp [nxt, idxL, numC]; exact World.ownsRow_nil _ _ _ _), Hid.mk (fun z hz => by cases hz), HN2, HF2, HR2, HX2, HB2⟩
      case round =>
        clear HW2 HX0 HE0 HN2 HF2 HR2 HX2 HB2 HWE HFE HPP HM HME c0 c1 f0 f1 g0 g1 hlt hlt' hk hP
        obtain ⟨q, vX, vP, P, D, hq, rfl, rfl, HW, HWE, HFE, HPP, HSH, HXR, HXP, HNS, HFR, HRS, HFM, HB⟩ := hrel
        obtain ⟨nX, hnX⟩ : ∃ nX, nX = (idxL P (nxt (rs.take q) lo fa re sz len (pb, (pn : Int)))).length := ⟨_, rfl⟩
        rw [← hnX] at HXR
        have HNX2 := Hid.mk hnX
        clear hnX
        obtain ⟨aX, cX, hvX⟩ := own_slice0 HXR.out
        subst hvX
        by_cases hlt : q < n
        · have hlt' : (q : Int) < (n : Int) := by omega
          obtain ⟨x, rfl⟩ := HRR.out.some hlt
          obtain ⟨c0, c1, c2, c3, c4, c5, c6⟩ := (HRR.out.kept HB.out).cell x rfl q hlt
          obtain ⟨r, hr⟩ : ∃ r, r = rs.getD q noR := ⟨_, rfl⟩
          have hokr := HOK.out q hlt
          rw [← hr] at hokr c0 c1 c2 c3 c4 c5 c6
          have hokf : okFl r.f = true := by unfold okR at hokr; simp at hokr; exact hokr.1.2
          have hokad : addB r = true := by unfold okR at hokr; simp at hokr; exact hokr.2
          have htb : 0 ≤ r.tb ∧ r.tb < 4 := by unfold okR fitR at hokr; simp at hokr; omega
          have htk : rs.take (q + 1) = rs.take q ++ [r] := by
            have hlr := HRR.out.len
            rw [List.take_succ_eq_append_getElem (by omega), hr, getR (by omega)]
          have HST : Hid (nxt (rs.take (q + 1)) lo fa re sz len (pb, (pn : Int)) = nxt (rs.take q) lo fa re sz len (pb, (pn : Int)) ++ (if carB r pb pn lo fa re sz len = true then [(r.tb, (pn : Int) + r.add)] else [])) := Hid.mk (by rw [htk, nxt_add]; simp)
          have hb1 := awB wr (rtC r)
          have HB1 := Hid.mk (bl2 HB.out hb1)
          have HV1 := Hid.mk (RtAt.new wr r)
          have HF1 := Hid.mk (HFR.out.kept hb1)
          have HFM1 := Hid.mk (HFM.out.kept hb1)
          have HW1 := Hid.mk (HW.out.kept hb1)
          have HNS1 := Hid.mk (HNS.out.kept hb1)
          have HXR1 := Hid.mk (ownsRow_below HXR.out hb1)
          have HRS1 := Hid.mk ((hb1.block _ (Array.getElem?_eq_some_iff.1 HRS.out).1).trans HRS.out)
          have HCR := Hid.mk (carry_any r pb pn lo fa re sz fa0 len cap (wr.alloc (rtC r)) hokf hokad (HLL.out.kept HB1.out) (HSS.out.kept HB1.out) HLE.out HFP.out HPN.out)
          have HCB : Hid (carB r pb pn lo fa re sz len = true → frEn ((pn : Int) + r.add) lo fa re sz len = 0) := Hid.mk (fun h => by unfold carB at h; simp at h; exact h.2)
          have m0 : (wr.alloc (rtC r)).cell? ⟨wo.heap.size, 0, none⟩ = some (.int .i64 pb) := cell_of_row _ _ 0 _ _ _ HFM1.out.var
          obtain ⟨p0, p1, p2, p3, p4, p5⟩ := HF1.out.fr
          have HTB := Hid.mk htb
          have HIN : Hid (carB r pb pn lo fa re sz len = true → (r.tb, (pn : Int) + r.add) ∈ nx (pb, (pn : Int))) := Hid.mk (fun h => by
            rw [HNX.out]
            unfold nxt
            rw [List.mem_filterMap]
            refine ⟨r, ?_, by simp [h]⟩
            have hlr := HRR.out.len
            rw [hr, getR (by omega)]
            exact List.getElem_mem _)
          clear hr hb1 hokr hokf hokad htb htk
          generalize carB r pb pn lo fa re sz len = CB at *
          obtain ⟨fr, tb, ⟨fw, fm, flo⟩, add, ev⟩ := r
          unfold rtC at HB1 HV1 HF1 HFM1 HW1 HNS1 HXR1 HRS1 HCR m0 p0 p1 p2 p3 p4 p5
          unfold Rt.val at HCR
          unfold frameV at HCR
          simp only at c0 c1 c2 c3 c4 c5 c6 HB1 HV1 HF1 HFM1 HW1 HNS1 HXR1 HRS1 HCR HST HCB m0 p0 p1 p2 p3 p4 p5 HTB HIN
          go_wp2_with fail
          generalize wr.alloc (.cells #[.int .i64 fr, .int .i64 tb, .int .i64 fw, .int .i64 fm, .bool flo, .int .i64 add, .int .i64 ev] 45) = W1 at *
          refine HCR.out.mono ?_
          rintro e w2 ⟨⟨i', l', f', r', s', a', n', c', rfl, himp⟩, hb2⟩
          have hb3 := awB w2 (frameC i' l' f' r' s' a' n' c')
          have hb23 := bl2 hb2 hb3
          have HB3 := Hid.mk (bl2 HB1.out hb23)
          have HV3 := Hid.mk (HV1.out.kept hb23)
          have HF3 := Hid.mk (HF1.out.kept hb23)
          have HFM3 := Hid.mk (HFM1.out.kept hb23)
          have HW3 := Hid.mk (HW1.out.kept hb23)
          have HNS3 := Hid.mk (HNS1.out.kept hb23)
          have HXR3 := Hid.mk (ownsRow_below HXR1.out hb23)
          have HRS3 := Hid.mk ((hb23.block _ (Array.getElem?_eq_some_iff.1 HRS1.out).1).trans HRS1.out)
          have HIM := Hid.mk himp
          clear himp hb2 hb3 hb23 HB1 HV1 HF1 HFM1 HW1 HNS1 HXR1 HRS1 m0 p0 p1 p2 p3 p4 p5 HCR
          unfold frameC at HB3 HV3 HF3 HFM3 HW3 HNS3 HXR3 HRS3
          cases CB with
          | false =>
            clear HIM HCB HIN
            have HE := HST.out
            rw [if_neg (by simp), List.append_nil] at HE
            have HEE := Hid.mk HE
            clear HE HST
            go_wp2_with fail
            go_roundw
            case rel =>
              refine ⟨q + 1, _, vP, P, D, by omega, rfl, by go_num, HW3, HWE, HFE, HPP, ?_, ?_, HXP, HNS3, HF3, HRS3, HFM3, HB3⟩
              · rw [HEE.out]; exact HSH
              · rw [HEE.out, ← HNX2.out]; exact HXR3
            case measure => simp [intOf]; omega
          | true =>
            obtain ⟨hi', -, -, -, -, -, -, -⟩ := HIM.out rfl
            have hfi : frEn i' lo fa re sz len = 0 := by rw [hi']; exact HCB.out rfl
            have hin' : (tb, i') ∈ nx (pb, (pn : Int)) := by rw [hi']; exact HIN.out rfl
            have hoq : okQ (tb, i') := ⟨HTB.out, by have := frEn_idW hfi; simp only; omega⟩
            have HE := HST.out
            rw [if_pos rfl, ← hi'] at HE
            have HEE := Hid.mk HE
            have HOQ := Hid.mk hoq
            have HFI := Hid.mk hfi
            have HII := Hid.mk hin'
            clear HE HST hi' hfi hin' HIM HCB HIN
            have HNO := Hid.mk (numOf_any _ _ _ _ _ _ _ _ (tb, i') _ HW3.out hoq)
            unfold plV at HNO
            simp only at HNO
            have t1 := HV3.out.c1
            simp only at t1
            clear hoq
            go_wp2_with fail
            refine HNO.out.mono ?_
            rintro e w4 ⟨rfl, v4, D4, hW4, hT4⟩
            generalize w2.alloc (.cells #[.int .i64 i', .bool l', .bool f', .bool r', .int .i64 s', .slice a' n' c'] 28) = W3 at *
            have hle3 := HW3.out.le
            have hown : ∀ z, (Value.slice aX nX cX).ownBlock = some z → w.heap.size + 5 ≤ z ∧ z < W3.heap.size := fun z hz => own_ge HXR3.out hz
            have hPge : ∀ z, vP.ownBlock = some z → w.heap.size + 5 ≤ z ∧ z < W3.heap.size := fun z hz => own_ge HW3.out.row hz
            have HW4 := Hid.mk hW4
            have HWE4 := Hid.mk (HWE.out.add HOQ.out HPP.out.1 (by rw [HPP.out.2]; exact HII.out))
            have HFE4 : Hid (∀ p ∈ addP 100000 P (tb, i'), frEn p.2 lo fa re sz len = 0) := Hid.mk (fun p hp => by
              rcases mem_addP hp with hp | rfl
              · exact HFE.out p hp
              · exact HFI.out)
            have hgr := addP_grw 100000 P (tb, i')
            have HPP4 : Hid (k < (addP 100000 P (tb, i')).length ∧ (addP 100000 P (tb, i')).getD k s0 = (pb, (pn : Int))) := Hid.mk ⟨Nat.lt_of_lt_of_le HPP.out.1 hgr.le, by rw [hgr.get HPP.out.1]; exact HPP.out.2⟩
            have hst := idxL_step (tb, i') HSH.out
            rw [← HEE.out] at hst
            have HNS4 : Hid (NxS w4 (w.heap.size + 5) [v4, .slice aX nX cX] (.slice aN nN cN) (nxL nx s0 (addP 100000 P (tb, i')) k)) := Hid.mk (by rw [nxL_grw HWE.out hgr]; exact HNS3.out.num hT4 (by omega) (by omega))
            have HXR4 := Hid.mk (owns_at HXR3.out (fun z hz => hT4.block z (hown z hz).2 (by have := (hown z hz).1; omega) (by have := (hown z hz).1; omega) (HXP.out z hz)))
            have HXP4 : Hid (∀ z, (Value.slice aX nX cX).ownBlock = some z → v4.ownBlock ≠ some z) := Hid.mk (fun z hz => by
              rcases hT4.own with h4 | ⟨y, h4, h5⟩
              · rw [h4]; exact HXP.out z hz
              · rw [h4]; intro e; have h6 := Option.some.inj e; have h7 := (hown z hz).2; omega)
            have HF4 : Hid (Row6 w4 w.heap.size (pn : Int) lo fa re sz fa0 len cap) := Hid.mk ((hT4.block _ HF3.out.lt (by omega) (by omega) (fun e => by have := (hPge _ e).1; omega)).trans HF3.out)
            have HRS4 := Hid.mk ((hT4.block _ (Array.getElem?_eq_some_iff.1 HRS3.out).1 (by omega) (by omega) (fun e => by have := (hPge _ e).1; omega)).trans HRS3.out)
            have HFM4 := Hid.mk (HFM3.out.num hT4 (by have := HG.out; omega) (by have := HG.out; omega))
            have HB4 := Hid.mk (NumT.below HB3.out hT4 (by omega) (by omega) (fun z hz => by have := (hPge z hz).1; omega) (Nat.le_refl _))
            have HSH4 := Hid.mk hst.2
            have HIX := Hid.mk hst.1
            have HHS : Hid (w.heap.size + 5 ≤ w4.heap.size) := Hid.mk hW4.le
            have hnX : nX ≤ 20 := by
              have h1 := HNX2.out
              have h2 := idxL_len P (nxt (rs.take q) lo fa re sz len (pb, (pn : Int)))
              have h3 := nxt_len (rs.take q) lo fa re sz len (pb, (pn : Int))
              have h4 : (rs.take q).length ≤ q := List.length_take_le _ _
              have := HN20.out
              omega
            have HNL := Hid.mk hnX
            clear hW4 hT4 hle3 hown hPge hgr hst hnX HW3 HNS3 HXR3 HF3 HRS3 HFM3 HB3 HV3 HWE HFE HPP HSH HXP HNO t1
            generalize numB 100000 P (tb, i') = NB at *
            generalize numI 100000 P (tb, i') = NI at *
            obtain ⟨i0, hi0, hz0, hz1, hz2⟩ := info_parts info_intF
            have hnX2 := HNL.out
            cases NB with
            | false =>
              go_wp2_with fail
              go_roundw
              case rel =>
                refine ⟨q + 1, _, v4, addP 100000 P (tb, i'), D4, by omega, rfl, by go_num, HW4, HWE4, HFE4, HPP4, HSH4, ?_, HXP4, HNS4, HF4, HRS4, HFM4, HB4⟩
                rw [HIX.out, if_neg (by simp), List.append_nil, ← HNX2.out]; exact HXR4
              case measure => simp [intOf]; omega
            | true =>
              go_wp2_with (at_builtin; refine wpList_append_two rfl (.tmp 69) (.tmp 71) 23 rfl (w.heap.size + 5) 3 i0 (.int .i64 0) 1 8 Tryd.underlying23 hi0 hz0 hz1 hz2 rfl (by decide) _ nX _ rfl (ownsRow_below HXR4.out (awB w4 _)) ⟨w4.heap.size, 0, none⟩ 1 1 [Value.int .i64 (NI : Int)] rfl rfl (by intro q u hq; match q, hq with | 0, hq => (simp at hq; subst hq; simp [Addr.add])) (by intro u hu; simp at hu; subst hu; rfl) (by decide) (by unfold maxLen; omega) (by omega) (by have := HHS.out; simp; omega) ?_; intro v5 w5 hown5 hgrow5 hblk5)
              have hXA := ownsRow_below HXR4.out (awB w4 (.cells #[.int .i64 (NI : Int)] 3))
              have hge := fun z (hz : (Value.slice aX nX cX).ownBlock = some z) => own_ge HXR4.out hz
              have HW5 := Hid.mk ((HW4.out.kept (awB w4 _)).grown hgrow5 (fun z hz => (hge z hz).1) (fun z hz => HXP4.out z hz))
              have HNS5 := Hid.mk (NxS.app (HNS4.out.kept (awB w4 _)) hgrow5 hblk5)
              have hFA := HF4.out.kept (awB w4 (.cells #[.int .i64 (NI : Int)] 3))
              have HF5 : Hid (Row6 w5 w.heap.size (pn : Int) lo fa re sz fa0 len cap) := Hid.mk ((grown_at hgrow5 hFA.lt (fun e => by have := (hge _ e).1; omega)).trans hFA)
              have hRA := ((awB w4 (.cells #[.int .i64 (NI : Int)] 3)).block _ (Array.getElem?_eq_some_iff.1 HRS4.out).1).trans HRS4.out
              have HRS5 := Hid.mk ((grown_at hgrow5 (Array.getElem?_eq_some_iff.1 hRA).1 (fun e => by have := (hge _ e).1; omega)).trans hRA)
              have HFM5 := Hid.mk (FrmS.app (HFM4.out.kept (awB w4 _)) hgrow5 hblk5)
              have HB5 : Hid (Below w.heap.size w w5) := Hid.mk (Below.grown (bl2 HB4.out (awB w4 _)) hgrow5 (by have := HHS.out; simp; omega) (fun z hz => by have := (hge z hz).1; omega))
              have HXP5 : Hid (∀ z, v5.ownBlock = some z → v4.ownBlock ≠ some z) := Hid.mk (fun z hz => by
                rcases hblk5 with h5 | h5
                · rw [h5] at hz; exact HXP4.out z hz
                · rw [h5] at hz
                  have h6 := Option.some.inj hz
                  intro h7
                  have h8 := (own_ge HW4.out.row h7).2
                  simp at h6
                  omega)
              have HXR5 := Hid.mk hown5
              clear hown5 hgrow5 hblk5 hXA hge hFA hRA
              go_roundw
              case rel =>
                refine ⟨q + 1, _, v4, addP 100000 P (tb, i'), D4, by omega, rfl, by go_num, HW5, HWE4, HFE4, HPP4, HSH4, ?_, HXP5, HNS5, HF5, HRS5, HFM5, HB5⟩
                rw [HIX.out, if_pos (by trivial), List.length_append, ← HNX2.out]
                have e : numC (idxL P (nxt (rs.take q) lo fa re sz len (pb, (pn : Int))) ++ [(NI : Int)]) = numC (idxL P (nxt (rs.take q) lo fa re sz len (pb, (pn : Int)))) ++ [.int .i64 (NI : Int)] := by simp [numC]
                rw [e]
                exact HXR5
              case measure => simp [intOf]; omega
        · obtain rfl : n = q := by omega
          have HTA : Hid (rs.take n = rs) := Hid.mk (List.take_of_length_le (by rw [HRR.out.len]; exact Nat.le_refl _))
          rw [HTA.out] at HSH HXR
          have HNX3 := HNX2.out
          rw [HTA.out] at HNX3
          have HNXE := Hid.mk HNX3
          clear HNX3 HNX2
          obtain ⟨i1, hi1, hy0, hy1, hy2⟩ := info_parts info_row
          obtain ⟨S, hrS, -⟩ := HNS.out.row
          have hkL : (nxL nx s0 P k).length = k := by simp [nxL]
          rw [hkL] at hrS
          obtain ⟨aN', cN', hvN'⟩ := own_slice0 hrS
          have hnN : nN = k := by cases hvN'; rfl
          subst hnN
          have HRN := Hid.mk hrS
          have hk5 : nN ≤ 100000 := by have := HW.out.len; have := HPP.out.1; omega
          obtain ⟨g0, g1, -, -⟩ := HW.out.cells
          have hws := HW.out.le
          have HWSZ := Hid.mk hws
          have hgeN := fun z (hz : (Value.slice aN nN cN).ownBlock = some z) => own_ge hrS hz
          have HGN := Hid.mk hgeN
          clear hrS hvN' hgeN hws
          rename World => wi
          go_wp2_with (at_builtin; refine wpList_append_two rfl (.tmp 75) (.tmp 77) 86 rfl (w.heap.size + 5) 23 i1 (.slice none 0 0) 1 24 Tryd.underlying86 hi1 hy0 hy1 hy2 rfl (by decide) _ nN S rfl (ownsRow_below HRN.out (awB wi _)) ⟨wi.heap.size, 0, none⟩ 1 1 [Value.slice aX nX cX] rfl rfl (by intro q u hq; match q, hq with | 0, hq => (simp at hq; subst hq; simp [Addr.add])) (by intro u hu; simp at hu; subst hu; rfl) (by decide) (by unfold maxLen; omega) (by omega) (by have := HWSZ.out; simp; omega) ?_; intro v5 w5 hown5 hgrow5 hblk5; obtain ⟨a5, c5, hv5⟩ := own_slice0 hown5; subst hv5; have HW5 := Hid.mk ((HW.out.kept (awB wi _)).grown hgrow5 (fun z hz => (HGN.out z hz).1) (fun z hz => HNS.out.apart _ (by simp) z hz)); obtain ⟨g0, g1, f0, f1⟩ := HW5.out.cells; have HO5 := Hid.mk hown5; have HG5 := Hid.mk hgrow5; have HK5 := Hid.mk hblk5; clear hown5 hgrow5 hblk5)
          have hA := awB wi (.cells #[.slice aX nX cX] 23)
          have hNA := HNS.out.kept hA
          have hXA := ownsRow_below HXR.out hA
          have hlX : (idxL P (nxt rs lo fa re sz len (pb, (pn : Int)))).length = nX := HNXE.out.symm
          have hpb : nx (P.getD nN s0) = nxt rs lo fa re sz len (pb, (pn : Int)) := by rw [HPP.out.2, HNX.out]
          have hN5 := NxS.add (X := idxL P (nxt rs lo fa re sz len (pb, (pn : Int)))) hNA hXA (fun z hz => HXP.out z hz) (fun z hz => (own_ge (HW.out.kept hA).row hz).2) hlX (fun S' hS' => by
            have hk2 : (nxL nx s0 P nN).length = nN := by simp [nxL]
            rw [hk2] at hS' ⊢
            have e := own_uniq hS' (ownsRow_below HRN.out hA)
            rw [e]
            exact HO5.out) HG5.out (by
            rcases HK5.out with h5 | h5
            · exact .inl h5
            · exact .inr ⟨_, h5, Nat.le_refl _⟩)
          have hN6 := hN5.setB (b := w.heap.size + 2) (i := 1) (by omega) (Value.slice a5 (nN + 1) c5)
          have HN6 : Hid (NxS (w5.setCell ⟨w.heap.size + 2, 1, none⟩ (Value.slice a5 (nN + 1) c5)) (w.heap.size + 5) [vP] (Value.slice a5 (nN + 1) c5) (nxL nx s0 P (nN + 1))) := Hid.mk (by rw [nxL_add, hpb]; exact hN6)
          have HW6 : Hid (WebS 100000 (w5.setCell ⟨w.heap.size + 2, 1, none⟩ (Value.slice a5 (nN + 1) c5)) (w.heap.size + 5) (w.heap.size + 2) (w.heap.size + 4) (w.heap.size + 3) vP (Value.slice a5 (nN + 1) c5) P D) := Hid.mk (HW5.out.moved (by rw [setS]; exact Nat.le_refl _) (heap_setCell_same _ _ 1 _ _ (Value.slice a5 (nN + 1) c5) HW5.out.var) (setH (by omega)) (setH (by omega)) (fun z hz => setH (by have := (own_ge HW5.out.row hz).1; omega)))
          have hFA := HFR.out.kept hA
          have hF5 := (grown_at HG5.out hFA.lt (fun e => by have := (HGN.out _ e).1; omega)).trans hFA
          have HF6 : Hid (∃ j, Row6 (w5.setCell ⟨w.heap.size + 2, 1, none⟩ (Value.slice a5 (nN + 1) c5)) w.heap.size j lo fa re sz fa0 len cap) := Hid.mk ⟨_, (setH (by omega)).trans hF5⟩
          have hRA := (hA.block _ (Array.getElem?_eq_some_iff.1 HRS.out).1).trans HRS.out
          have hR5 := (grown_at HG5.out (Array.getElem?_eq_some_iff.1 hRA).1 (fun e => by have := (HGN.out _ e).1; omega)).trans hRA
          have HR6 : Hid ((w5.setCell ⟨w.heap.size + 2, 1, none⟩ (Value.slice a5 (nN + 1) c5)).heap[w.heap.size + 1]? = some (.cells #[.slice none 0 0, .slice none 0 0] 88 (0, 0))) := Hid.mk ((setH (by omega)).trans hR5)
          have hB5 : Below w.heap.size w w5 := Below.grown (bl2 HB.out hA) HG5.out (by have := HWSZ.out; simp; omega) (fun z hz => by have := (HGN.out z hz).1; omega)
          have HB6 := Hid.mk (hB5.setCell (p := ⟨w.heap.size + 2, 1, none⟩) (by show w.heap.size ≤ w.heap.size + 2; omega) (Value.slice a5 (nN + 1) c5))
          have HWE6 := Hid.mk (HWE.out.step HPP.out.1 (by rw [hpb]; exact HSH.out))
          have hkP := HPP.out.1
          have hPL := HW.out.len
          clear hA hNA hXA hlX hpb hN5 hN6 hFA hF5 hRA hR5 hB5
          go_roundw
          case rel => exact ⟨nN + 1, vP, (Value.slice a5 (nN + 1) c5), P, D, hkP, hPL, by first | go_num | rfl, HW6, HWE6, HFE, HN6, HF6, HR6, HB6⟩
          case measure => simp [intOf]; omega
    · obtain ⟨m, hm⟩ : ∃ m, m = P.length := ⟨_, rfl⟩
      have HWW := Hid.mk HW.out.row
      rw [← hm] at g0 hlt hk hP HWW
      have hge : ¬ (k : Int) < (m : Int) := by omega
      have HM := Hid.mk hm
      obtain ⟨⟨r0, r1⟩, ⟨r2, r3⟩, hSX⟩ := rdy2 HRS.out (.slice aP m cP) (.slice aN nN cN)
      have HSX := Hid.mk hSX
      have hws := HW.out.le
      have HB3 := Hid.mk (set2_below HB.out (g := w.heap.size + 1) (by omega) (.slice aP m cP) (.slice aN nN cN))
      have HN3 := Hid.mk ((HNS.out.setB (b := w.heap.size + 1) (i := 0) (by omega) (.slice aP m cP)).setB (b := w.heap.size + 1) (i := 1) (by omega) (.slice aN nN cN))
      have HR3 := Hid.mk (owns_setB (owns_setB HWW.out (a := ⟨w.heap.size + 1, 0, none⟩) (show w.heap.size + 1 < w.heap.size + 5 by omega) (.slice aP m cP)) (a := ⟨w.heap.size + 1, 1, none⟩) (show w.heap.size + 1 < w.heap.size + 5 by omega) (.slice aN nN cN))
      clear hm hSX hws HWW
      go_wp2_with fail
      refine bodyPost_ret (web_res _ _ (w.heap.size + 1) _ rfl HSX.out rfl) rfl ?_
      have e1 := HM.out
      have e2 := HNX.out
      have e3 := HS0.out
      subst e2
      subst e3
      obtain rfl : k = P.length := by omega
      rw [e1] at HR3 HN3 HB3 ⊢
      exact ⟨P, _, _, rfl, HWE.out, fun a b h => HFE.out (a, b) h, HR3.out, HN3.out, HB3.out⟩
end Bw
end Go.Proofs.YtapjiopnjfldhaaDoor
