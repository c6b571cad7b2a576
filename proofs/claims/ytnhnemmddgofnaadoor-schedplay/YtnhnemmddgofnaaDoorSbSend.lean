/- What sched.send answers. -/
import Derived.Test.YtnhnemmddgofnaaDoorS3
import Derived.Test.YtnhnemmddgofnaaDoorDlWorst
import Derived.Deep.LoopGhost
import Derived.Deep.RegionHeld3
import Derived.Deep.AppendLies
import Derived.BigQuiet
import Derived.Lib.QuietBelow
namespace Go.Proofs.YtnhnemmddgofnaaDoor
open Go.ChangeShapes Go.WideShapes Go.ChangeAt Go.RowKit Go.Sort
namespace Bw
open Sb (Ms Sl lens asks SortedQ Play)
set_option linter.unusedVariables false
theorem info_sl : (Tryd.prog.info? 38).map (fun i => (i.zero, i.size, i.bytes)) = some (some (.agg #[.int .i64 0, .int .i64 0, .int .i64 0, .int .i64 0]), 4, 32) := by kernel_rfl
theorem lens_set : ∀ {Q : List (List Ms)} {i : Nat} {y : Ms} {tl : List Ms}, i < Q.length → Q.getD i [] = y :: tl → lens (Q.set i tl) + 1 = lens Q
  | [], _, _, _, h, _ => by simp at h
  | q :: Q, 0, y, tl, _, hq => by
    have hq' : q = y :: tl := hq
    subst hq'
    unfold lens
    simp only [List.set_cons_zero, List.map_cons, List.sum_cons, List.length_cons]
    omega
  | q :: Q, i + 1, y, tl, h, hq => by
    have := lens_set (Q := Q) (i := i) (y := y) (tl := tl) (by simp at h; omega) hq
    unfold lens at this ⊢
    simp only [List.set_cons_succ, List.map_cons, List.sum_cons]
    omega
theorem asks_none {Q : List (List Ms)} (h : ∀ j, j < Q.length → Q.getD j [] = []) : asks Q = [] := by
  cases hq : asks Q with
  | nil => rfl
  | cons x r =>
    obtain ⟨m, h1, h2, -⟩ := Sb.mem_asks (x := x) (Q := Q) (by rw [hq]; exact List.mem_cons_self)
    rw [h _ h1] at h2
    cases h2
theorem hdP_yes {t : Nat} {q : List Ms} (h : hdP t q = true) : ∃ m tl, q = m :: tl ∧ m.2 ≤ t := by
  cases q with
  | nil => cases h
  | cons m tl => exact ⟨m, tl, rfl, of_decide_eq_true h⟩
theorem hdP_no {t : Nat} {m : Ms} {tl : List Ms} (h : hdP t (m :: tl) = false) : ¬ m.2 ≤ t := of_decide_eq_false h
/-- one step of the play, as the loop has it -/
theorem send_step {C : Nat → Nat} {Q0 Q : List (List Ms)} {S : List Sl} {free t tm n : Nat} (htm : tm = max t free) (hn : Q.length = n) (hs : SortedQ Q) (hP : ∀ S2, Play C free (asks Q) S2 → Play C 0 (asks Q0) (S ++ S2)) (hso : soonP (0, false) Q = (t, true)) :
    (∃ j, j < n ∧ hdP tm (Q.getD j []) = true) ∧ ∀ i m tl, i < n → Q.getD i [] = m :: tl → m.2 ≤ tm → (∀ j, j < i → hdP tm (Q.getD j []) = false) → ∀ S2, Play C (tm + C i) (asks (Q.set i tl)) S2 → Play C 0 (asks Q0) ((S ++ [⟨i, m.1, m.2, tm⟩]) ++ S2) := by
  have h2 : (soonP (0, false) Q).2 = true := by rw [hso]
  obtain ⟨-, k2, k3⟩ := soon_yes h2
  rw [hso] at k2 k3
  simp only at k2 k3
  subst hn
  refine ⟨?_, fun i m tl hi hq hm hf S2 hS2 => ?_⟩
  · rcases k3 with ⟨k3, -⟩ | ⟨j, m, tl, a1, a2, a3⟩
    · cases k3
    · refine ⟨j, a1, ?_⟩
      rw [a2]
      exact decide_eq_true (by omega)
  · rw [List.append_assoc]
    apply hP
    rw [htm] at hm hS2 ⊢
    refine Sb.play_step hs (fun j m' tl' hj hq' => k2 j m' tl' hj hq') hi hq hm (fun j m' tl' hj hq' => ?_) hS2
    have := hf j hj
    rw [hq', htm] at this
    exact hdP_no this
theorem four_newD (w : World) (x y z u : Value) (T : TypeId) : ∀ j v, ([x, y, z, u] : List Value)[j]? = some v → (w.alloc (.cells #[x, y, z, u] T)).cell? ((⟨w.heap.size, 0, none⟩ : Addr).add j) = some v := by
  intro j v hv
  match j, hv with
  | 0, hv => cases hv; exact cell_of_row _ _ 0 _ _ _ (heap_alloc_new w _)
  | 1, hv => cases hv; exact cell_of_row _ _ 1 _ _ _ (heap_alloc_new w _)
  | 2, hv => cases hv; exact cell_of_row _ _ 2 _ _ _ (heap_alloc_new w _)
  | 3, hv => cases hv; exact cell_of_row _ _ 3 _ _ _ (heap_alloc_new w _)
set_option maxHeartbeats 16000000 in
set_option maxRecDepth 100000 in
theorem send_some (aT : Option Addr) (n dT : Nat) (l : List Tk) (w0 w : World) (g c B : Nat) (Q : List (List Ms)) (hT : IsTks w0 aT n dT l) (hok : ∀ x ∈ l, okT x = true) (hn : n ≤ 20) (hS : SizesAt w0) (hR : RulesAt w0)
    (hQ : WtQ w g n c B w.heap.size Q) (hb0 : w0.heap.size ≤ B) (hbw : B ≤ w.heap.size) (hold : Below w0.heap.size w0 w) (hs : SortedQ Q) (hfew : lens Q ≤ 1000) (hbd : ∀ j m, m ∈ Q.getD j [] → m.1 ≤ 2000000 ∧ m.2 ≤ 2000000) :
    Calls Tryd.prog 20 #[.slice aT n dT, .slice (some ⟨g, 0, none⟩) n c] w fun e w' => ∃ vS S, e = .returned vS ∧ Play (Sb.cT l) 0 (asks Q) S ∧ w'.ownsRow w.heap.size 38 4 vS S.length (slCs (Sb.cT l) S) ∧ Below w0.heap.size w0 w' ∧ (∀ x ∈ S, x.d ≤ 2000000 ∧ x.s + Sb.cT l x.k ≤ 2200000) := by
  have HT := Hid.mk hT
  have HOK := Hid.mk hok
  have HS := Hid.mk hS
  have HR := Hid.mk hR
  have HLN := Hid.mk hT.len
  have HFEW := Hid.mk hfew
  obtain ⟨i0, hi0, hz0, hz1, hz2⟩ := info_partsD info_sl
  have HSD0 : Hid (SdS w0 w w g n c B (Sb.cT l) (.slice none 0 0) [] Q) := Hid.mk ⟨hb0, hbw, hold, Nat.le_refl _, hQ, World.ownsRow_nil _ _ _ _⟩
  have HSO0 := Hid.mk hs
  have HBD0 := Hid.mk hbd
  clear hT hok hS hR hQ hb0 hbw hold hs hfew hbd
  go_enter Tryd.func20, Tryd.ntmps20
  go_wp2_with fail
  go_loopg [5, 6] (lens Q + 1) (fun gk s5 s6 wr => ∃ (free : Nat) (vS : Value) (S : List Sl) (Q' : List (List Ms)), vS = s5 ∧ s6 = .int .i64 free ∧ lens Q' + 1 ≤ gk ∧ S.length + lens Q' ≤ 1000 ∧ free ≤ 2000000 + S.length * 135 ∧ Hid (SdS w0 w wr g n c B (Sb.cT l) vS S Q') ∧ Hid (SortedQ Q') ∧ Hid (∀ S2, Play (Sb.cT l) free (asks Q') S2 → Play (Sb.cT l) 0 (asks Q) (S ++ S2)) ∧ Hid (∀ j m, m ∈ Q'.getD j [] → m.1 ≤ 2000000 ∧ m.2 ≤ 2000000) ∧ Hid (∀ x ∈ S, x.d ≤ 2000000 ∧ x.s + Sb.cT l x.k ≤ 2200000))
  case atStart => exact ⟨0, _, [], Q, rfl, rfl, Nat.le_refl _, by have := HFEW.out; simp; omega, by omega, HSD0, HSO0, Hid.mk (fun S2 h => h), HBD0, Hid.mk (fun x hx => by cases hx)⟩
  case round =>
    clear HSD0 HSO0 HBD0
    obtain ⟨free, vS, S, Q', rfl, rfl, hgk, hcnt, hfree, HSD, HSO, HPL, HBD, HSB⟩ := hrel
    rename World => wo
    have HGK := Hid.mk hgk
    have HCNT := Hid.mk hcnt
    have hlq : S.length ≤ 1000 := by omega
    clear hgk hcnt
    have HC := Hid.mk (soonest_any _ n c Q' B wo HSD.out.q.view)
    obtain ⟨Z, hZ⟩ : ∃ Z, Z = soonP (0, false) Q' := ⟨_, rfl⟩
    rw [← hZ] at HC
    have HZ := Hid.mk hZ
    clear hZ
    obtain ⟨t, is⟩ := Z
    simp only at HC
    cases is with
    | false =>
      have HEND : Hid (Play (Sb.cT l) 0 (asks Q) S) := Hid.mk (by
        have h1 := soon_no (show (soonP (0, false) Q').2 = false by rw [← HZ.out])
        have h2 := HPL.out [] (by rw [asks_none h1.2]; exact Play.done free)
        rw [List.append_nil] at h2
        exact h2)
      go_wp2_with fail
      refine HC.out.mono ?_
      rintro e w1 ⟨rfl, hb1⟩
      have HSD1 := Hid.mk (HSD.out.kept (bl2 hb1 (awD w1 (.cells #[.int .i64 (t : Int)] 3))))
      clear hb1
      go_wp2_with fail
      go_ret
      exact ⟨_, S, rfl, HEND.out, HSD1.out.out, HSD1.out.old, HSB.out⟩
    | true =>
      obtain ⟨tm, htm⟩ : ∃ tm, tm = max t free := ⟨_, rfl⟩
      obtain ⟨hex, hstep⟩ := send_step htm HSD.out.q.len HSO.out HPL.out HZ.out.symm
      have HEX := Hid.mk hex
      have HSTEP := Hid.mk hstep
      have htb : t ≤ 2000000 := by
        have h1 := (soon_yes (show (soonP (0, false) Q').2 = true by rw [← HZ.out])).2.2
        rw [← HZ.out] at h1
        simp only at h1
        rcases h1 with ⟨h1, -⟩ | ⟨j, m, tl, a1, a2, a3⟩
        · cases h1
        · have := (HBD.out j m (by rw [a2]; exact List.mem_cons_self)).2
          omega
      have htmb : tm ≤ 2000000 + S.length * 135 := by omega
      have HMX : Hid (max (t : Int) (free : Int) = (tm : Int)) := Hid.mk (by omega)
      clear HPL HZ hfree htb htm hex hstep
      have HI1 := fun (W : World) (hb : Below wo.heap.size wo W) (T : Nat) (ht : W.cell? ⟨T, 0, none⟩ = some (.int .i64 tm)) => idxM_any _ n c Q' B T tm W ((HSD.out.kept hb).q.view) ht HEX.out
      have HI := Hid.mk HI1
      clear HI1
      go_wp2_with fail
      refine HC.out.mono ?_
      rintro e w1 ⟨rfl, hb1⟩
      have hb2 := bl2 hb1 (awD w1 (.cells #[.int .i64 (tm : Int)] 3))
      have hc2 : (w1.alloc (.cells #[.int .i64 (tm : Int)] 3)).cell? ⟨w1.heap.size, 0, none⟩ = some (.int .i64 tm) := cell_of_row _ _ 0 _ _ _ (heap_alloc_new w1 _)
      have HC2 := Hid.mk (HI.out _ hb2 w1.heap.size hc2)
      have HT2 := Hid.mk hc2
      have HSD2 := Hid.mk (HSD.out.kept hb2)
      have HBT : Hid (w.heap.size ≤ w1.heap.size) := Hid.mk (Nat.le_trans HSD.out.size hb1.size)
      clear hb1 hb2 hc2 HI
      go_wp2_with fail
      rw [HMX.out]
      generalize w1.alloc (.cells #[.int .i64 (tm : Int)] 3) = w2 at *
      obtain ⟨TV, hTV⟩ : ∃ TV, TV = w1.heap.size := ⟨_, rfl⟩
      rw [← hTV] at HC2 HT2 HBT ⊢
      clear hTV
      refine HC2.out.mono ?_
      rintro e w3 ⟨i, rfl, hin, hi1, hi2, hb3⟩
      obtain ⟨y, tl, hyq, hym⟩ := hdP_yes hi1
      have HSD3 := Hid.mk (HSD2.out.kept hb3)
      have HT3 := Hid.mk (cell_kept hb3 HT2.out)
      have HGO := Hid.mk (HSTEP.out i y tl hin hyq hym hi2)
      have HYB := Hid.mk (HBD.out i y (by rw [hyq]; exact List.mem_cons_self))
      have HYQ := Hid.mk hyq
      have HLE := Hid.mk (lens_set (Q := Q') (i := i) (by rw [HSD.out.q.len]; exact hin) hyq)
      have HSO3 := Hid.mk (HSO.out.tail (by rw [HSD.out.q.len]; exact hin) hyq)
      have hiI : (i : Int) < (n : Int) := by omega
      have hiI20 : (i : Int) ≤ 20 := by omega
      clear hb3 hi1 hi2 hyq hym HC2 HSTEP HC HT2 HSD2 HEX
      obtain ⟨x, rfl⟩ := HT.out.some hin
      obtain ⟨r, hr⟩ : ∃ r, r = l.getD i noT := ⟨_, rfl⟩
      have hrok := HOK.out r (by rw [hr]; exact getD_memT (by rw [HLN.out]; exact hin))
      have HCR : Hid (Sb.cT l i = cN r) := Hid.mk (by unfold Sb.cT; rw [← hr])
      have hcb := (okT_n hrok).2.1
      have HTW : Hid (∀ W, Below w3.heap.size w3 W → TkOn W (x.add (i * 5)) r) := Hid.mk (fun W hb => by rw [hr]; exact (HT.out.kept (bl2 HSD3.out.old hb)).cell x rfl i hin)
      have HTK : Hid (∀ d os, Calls Tryd.prog 33 #[r.val] (grow (redrawn w3 d) os) fun e w' => e = .returned (.int .i64 (cN r : Nat)) ∧ Below (grow (redrawn w3 d) os).heap.size (grow (redrawn w3 d) os) w') := Hid.mk (fun d os => stakes_any r _ hrok (HS.out.kept (bl2 HSD3.out.old (below_regrown _ d os))) (HR.out.kept (bl2 HSD3.out.old (below_regrown _ d os))))
      have r0 := fun d os => (HTW.out _ (below_regrown w3 d os)).c0
      have r1 := fun d os => (HTW.out _ (below_regrown w3 d os)).c1
      have r2 := fun d os => (HTW.out _ (below_regrown w3 d os)).c2
      have r3 := fun d os => (HTW.out _ (below_regrown w3 d os)).c3
      have r4 := fun d os => (HTW.out _ (below_regrown w3 d os)).c4
      have r5 := fun d os => cell_kept (below_regrown w3 d os) HT3.out
      clear hr hrok
      obtain ⟨id, by_, ev, la, ji⟩ := r
      generalize cN ⟨id, by_, ev, la, ji⟩ = CC at *
      have hccI : (CC : Int) ≤ 135 := by omega
      have htmI : (tm : Int) ≤ 2135000 := by omega
      unfold Tk.val at HTK
      simp only at r0 r1 r2 r3 r4 HTK
      go_wp2_with fail
      refine wp_region_quiet_below (by kernel_rfl) (by kernel_rfl) ?_
      repeat (go_big_quiet_step ((go_at_call 33; with_reducible_and_instances exact Calls.regrown_of (HTK.out _ _))))
      refine wpQuiet_nil ?_
      intro _ hw'
      obtain ⟨⟨dq, osq⟩, hw''⟩ := hw'
      have hbq := below_regrown w3 dq osq
      rw [hw'']
      have HSD4 := Hid.mk (HSD3.out.kept hbq)
      have HT4 := Hid.mk (cell_kept hbq HT3.out)
      clear r0 r1 r2 r3 r4 r5 HTK hw'' hbq HTW HSD3 HT3
      generalize Go.Sort.grow (redrawn w3 dq) osq = w4 at *
      obtain ⟨q, off, c', HH, -, -⟩ := HSD4.out.q.take hin HYQ.out
      have hS0 := And.intro HH.p (And.intro HH.d HT4.out)
      have hle := HH.le
      have hmx := HH.max
      obtain ⟨TL, hTL⟩ : ∃ TL, TL = tl.length := ⟨_, rfl⟩
      rw [← hTL] at hS0 hle
      have htl0 : (0 : Int) < ((TL + 1 : Nat) : Int) := by omega
      have htl1 : ((TL + 1 : Nat) : Int) ≤ 9223372036854775807 := by unfold maxLen at hmx; omega
      have htl2 : 0 < TL + 1 := by omega
      have HK4 : Hid (∀ W : World, Below w4.heap.size w4 W → W.cell? ⟨g, i, none⟩ = some (.slice (some ⟨q, off, none⟩) (TL + 1) c') ∧ W.cell? ⟨q, off, none⟩ = some (.int .i64 (y.1 : Nat)) ∧ W.cell? ⟨TV, 0, none⟩ = some (.int .i64 tm)) := Hid.mk (fun W hb => ⟨cell_kept hb hS0.1, cell_kept hb hS0.2.1, cell_kept hb hS0.2.2⟩)
      have HD1 : Hid (Below w4.heap.size w4 w4.drew) := Hid.mk (below_drD (Below.refl _ _) 1)
      clear HH hle hmx hTL
      obtain ⟨d1, hd1⟩ : ∃ d1, d1 = y.1 := ⟨_, rfl⟩
      rw [← hd1] at hS0 HK4
      have HDE := Hid.mk hd1
      clear hd1 htl1
      have HSC : Hid ([.int .i64 (i : Int), .int .i64 (d1 : Nat), .int .i64 (tm : Int), .int .i64 ((tm : Int) + (CC : Int))] = slC (Sb.cT l) ⟨i, d1, y.2, tm⟩) := Hid.mk (by unfold slC; simp only [HCR.out]; rw [Int.natCast_add])
      have HD2 : Hid (∀ o : Obj, Below w4.heap.size w4 (w4.alloc o).drew) := Hid.mk (fun o => bl2 (awD _ _) (below_drD (Below.refl _ _) 1))
      go_wp2_with fail
      go_region_law (refine step_append_lies _ (by rfl) (.tmp 31) (.tmp 43) 24 (by rfl) w.heap.size 38 i0 (.agg #[.int .i64 0, .int .i64 0, .int .i64 0, .int .i64 0]) 4 32 Tryd.underlying24 hi0 hz0 hz1 hz2 rfl (by decide) _ S.length _ (by rfl) (HSD4.out.kept (HD2.out _)).out ⟨w4.heap.size, 0, none⟩ 1 1 [.int .i64 (i : Int), .int .i64 (d1 : Nat), .int .i64 (tm : Int), .int .i64 ((tm : Int) + (CC : Int))] (by rfl) rfl (four_newD _ _ _ _ _ _) (by intro u hu; simp at hu; rcases hu with rfl | rfl | rfl | rfl <;> rfl) (by decide) (by unfold maxLen; omega) (by omega) ((HSD4.out.kept (HD2.out _)).size) _ rfl ?_; intro g5 c5 w5 hown5 hgrow5 hblk5 hlt5; rw [HSC.out] at hown5; have HSD5 := Hid.mk (SdS.app (x := ⟨i, d1, y.2, tm⟩) (HSD4.out.kept (HD2.out _)) hown5 hgrow5); have HB5 := Hid.mk hlt5; clear hown5 hgrow5 hblk5 hlt5)
      all_goals focus
        have HSD5 := HSD5
        obtain ⟨q2, off2, c2, HH, hA, hB⟩ := HSD5.out.q.take hin HYQ.out
        have hcp := HH.p
        have hle := HH.le
        have hmx := HH.max
        have hfz := HSD5.out.q.frozen i
        have HSA := Hid.mk (fun (h : c2 = 1) => HSD5.out.put (hA h).2)
        have HSB2 := Hid.mk (fun (h : ¬ c2 = 1) => HSD5.out.put (hB h))
        have HA0 := Hid.mk (fun (h : c2 = 1) => (hA h).1)
        have HQN := Hid.mk HSD5.out.q.len
        clear HH hA hB
        have HP6 : Hid (∀ S2, Play (Sb.cT l) (tm + CC) (asks (Q'.set i tl)) S2 → Play (Sb.cT l) 0 (asks Q) ((S ++ [⟨i, d1, y.2, tm⟩]) ++ S2)) := Hid.mk (by rw [HDE.out, ← HCR.out]; exact HGO.out)
        have HB6 : Hid (∀ j m, m ∈ (Q'.set i tl).getD j [] → m.1 ≤ 2000000 ∧ m.2 ≤ 2000000) := Hid.mk (by
          intro j m hm
          by_cases e : i = j
          · subst e
            rw [Sb.getD_set_same (by rw [HQN.out]; exact hin)] at hm
            exact HBD.out i m (by rw [HYQ.out]; exact List.mem_cons_of_mem _ hm)
          · rw [Sb.getD_set_other e] at hm
            exact HBD.out j m hm)
        have HS6 : Hid (∀ x ∈ S ++ [⟨i, d1, y.2, tm⟩], x.d ≤ 2000000 ∧ x.s + Sb.cT l x.k ≤ 2200000) := Hid.mk (by
          intro x hx
          rcases List.mem_append.1 hx with hx | hx
          · exact HSB.out x hx
          · rw [List.mem_singleton] at hx
            subst hx
            have h1 := HYB.out.1
            have h2 := HCR.out
            simp only
            rw [HDE.out, h2]
            omega)
        have HNUM : Hid (lens (Q'.set i tl) + 1 + 1 ≤ gk ∧ (S ++ [(⟨i, d1, y.2, tm⟩ : Sl)]).length + lens (Q'.set i tl) ≤ 1000 ∧ tm + CC ≤ 2000000 + (S ++ [(⟨i, d1, y.2, tm⟩ : Sl)]).length * 135) := Hid.mk (by
          have h1 := HLE.out
          have h2 := HGK.out
          have h3 := HCNT.out
          rw [List.length_append, List.length_singleton]
          omega)
        clear HGO HBD HSB HLE HCNT HK4 hS0 HSC
        by_cases hc1 : c2 = 1
        · have h0 := HA0.out hc1
          have HSD6 := Hid.mk (HSA.out hc1)
          clear HSA HSB2 HA0
          subst hc1
          rw [h0] at hcp hle
          clear h0 hle hmx
          go_wp2_with fail
          go_roundg (gk - 1)
          case measure => have := HNUM.out.1; omega
          case rel => exact ⟨tm + CC, _, _, _, rfl, by go_num, by have := HNUM.out.1; omega, HNUM.out.2.1, HNUM.out.2.2, HSD6, HSO3, HP6, HB6, HS6⟩
        · have HSD6 := Hid.mk (HSB2.out hc1)
          clear HSA HSB2 HA0
          obtain ⟨TL2, hTL2⟩ : ∃ TL2, TL2 = tl.length := ⟨_, rfl⟩
          rw [← hTL2] at hcp hle HSD6
          clear hTL2 hmx
          have htl1 : ((TL2 + 1 : Nat) : Int) ≤ (c2 : Int) := by omega
          go_wp2_with fail
          go_roundg (gk - 1)
          case measure => have := HNUM.out.1; omega
          case rel => exact ⟨tm + CC, _, _, _, rfl, by go_num, by have := HNUM.out.1; omega, HNUM.out.2.1, HNUM.out.2.2, HSD6, HSO3, HP6, HB6, HS6⟩
end Bw
end Go.Proofs.YtnhnemmddgofnaaDoor
