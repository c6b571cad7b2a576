/- The law HealthTill: how many errors it takes any counters till they are off is told, and so many do, no fewer; errors too. -/
import Derived.Test.YtemjjkjceeljbaaDoorHstepLaw
import Derived.Test.YtemjjkjceeljbaaDoorHealthTillM
namespace Go.Proofs.YtemjjkjceeljbaaDoor
open Go.ChangeShapes Go.WideShapes Go.ChangeAt Go.RowKit
namespace Bw
def TillIs : Prop := ∀ (h : Hl) (w : World), ChgAt w →
    Calls Tryd.prog 13 #[hV h] w fun e w' => e = .returned (.tuple #[.int .i64 (if okB h = true then tillH h else 0), .int .i64 (chkH h)]) ∧ Below w.heap.size w w'
set_option maxHeartbeats 16000000 in
set_option maxRecDepth 100000 in
theorem htill_bad (hSt : StepIs) (hTe : StateIs) (hTi : TillIs) (h : Hl) (w : World) (hG : ChgAt w) (ho : okB h = false) :
    Calls Tryd.prog 4 #[hV h] w fun e w' => e = .returned (.bool true) ∧ Below w.heap.size w w' := by
  obtain ⟨s, g, r⟩ := h
  have hC3 : chkH ⟨s, g, r⟩ = 3 := by unfold chkH; rw [if_neg (by rw [ho]; decide)]
  have a1 := fun W (hb : Below w.heap.size w W) => hTi ⟨s, g, r⟩ W (hG.kept hb)
  rw [if_neg (by rw [ho]; decide), hC3] at a1
  have a3 := fun W => checkHealth_any ⟨s, g, r⟩ W
  rw [hC3] at a3
  have hB0 := hbox w ⟨s, g, r⟩
  have HR0 := Hid.mk (HRow.box w ⟨s, g, r⟩)
  have HB0 := Hid.mk hB0
  have HA1 := Hid.mk a1
  have HA3 := Hid.mk a3
  have HA4 := Hid.mk (fun W (hb : Below w.heap.size w W) => well_any hSt hTe W (hG.kept hb))
  unfold hC at HR0 HB0
  unfold hV at HA1 HA3 ⊢
  simp only at HA1 HA3 HB0 HR0 ⊢
  clear hB0 a1 a3
  clear hC3 ho hSt hTe hTi hG
  obtain ⟨m0, m1, m2⟩ := HR0.out.at
  simp only at m0 m1 m2
  go_enter Tryd.func4, Tryd.ntmps4
  go_wp2_with fail
  refine (HA1.out _ HB0.out).mono ?_
  rintro e w1 ⟨rfl, hb1⟩
  have HR1 := Hid.mk (HR0.out.kept hb1)
  have HB1 := Hid.mk (bl2 HB0.out hb1)
  obtain ⟨k0, k1, k2⟩ := HR1.out.at
  simp only at k0 k1 k2
  clear hb1 HR0 HB0 m0 m1 m2
  go_wp2_with fail
  refine (HA3.out _).mono ?_
  rintro e w2 ⟨rfl, hb2⟩
  have HR2 := Hid.mk (HR1.out.kept hb2)
  have HB2 := Hid.mk (bl2 HB1.out hb2)
  clear hb2 HR1 HB1 k0 k1 k2
  go_wp2_with fail
  refine (HA4.out _ HB2.out).mono ?_
  rintro e w3 ⟨rfl, hb3⟩
  have HR3 := Hid.mk (HR2.out.kept hb3)
  have HB3 := Hid.mk (bl2 HB2.out hb3)
  clear hb3 HR2 HB2
  go_wp2_with fail
  refine (HA4.out _ HB3.out).mono ?_
  rintro e w4 ⟨rfl, hb4⟩
  have HB4 := Hid.mk (bl2 HB3.out hb4)
  clear hb4
  go_wp2_with fail
  go_ret
  exact ⟨rfl, HB4.out⟩
set_option maxHeartbeats 16000000 in
set_option maxRecDepth 100000 in
theorem htill_ok (hSt : StepIs) (hTe : StateIs) (hTi : TillIs) (h : Hl) (w : World) (hG : ChgAt w) (ho : okB h = true) :
    Calls Tryd.prog 4 #[hV h] w fun e w' => e = .returned (.bool true) ∧ Below w.heap.size w w' := by
  have hok := (okB_iff h).1 ho
  obtain ⟨t0, t32, tz⟩ := till_range h hok
  obtain ⟨t, ht⟩ : ∃ t : Nat, tillH h = (t : Int) := ⟨(tillH h).toNat, by omega⟩
  rw [ht] at t32 tz
  have HBE := Hid.mk (fun j (hj : j < t) => till_before h hok j (by rw [ht]; omega))
  have HAT := Hid.mk (till_at h hok t ht.symm)
  have HOK := Hid.mk (tk_ok h hok)
  have hso := state_off h
  obtain ⟨TK, hTK⟩ : ∃ TK : Nat → Hl, TK = tk h := ⟨_, rfl⟩
  have HT0 := Hid.mk (show TK 0 = h by rw [hTK]; rfl)
  have HTs := Hid.mk (show ∀ k, TK (k + 1) = stepH (TK k) 3 by intro k; rw [hTK]; rfl)
  rw [← hTK] at HBE HAT HOK
  have a1 := fun W (hb : Below w.heap.size w W) => hTi h W (hG.kept hb)
  have hC0 : chkH h = 0 := by unfold chkH; rw [if_pos ho]
  rw [if_pos ho, hC0, ht] at a1
  have a3 := fun W => checkHealth_any h W
  rw [hC0] at a3
  have a6 := fun W => stateOf_any h W
  obtain ⟨bz, hbz1, hbz2⟩ : ∃ bz : Bool, ((t : Int) == 0) = bz ∧ (stateH h == 2) = bz := by
    by_cases hs : h.s = 256
    · exact ⟨true, by simpa using tz.2 hs, by simpa using hso.2 hs⟩
    · exact ⟨false, by rw [beq_eq_false_iff_ne]; exact fun e => hs (tz.1 e), by rw [beq_eq_false_iff_ne]; exact fun e => hs (hso.1 e)⟩
  generalize stateH h = st at *
  have ht32 : (t : Int) ≤ 32 := t32
  clear t0 t32 tz hso hok ho hC0 hTK ht
  obtain ⟨s, g, r⟩ := h
  have HA6 := Hid.mk a6
  unfold hV at HA6
  simp only at HA6
  clear a6
  have hB0 := hbox w ⟨s, g, r⟩
  have HR0 := Hid.mk (HRow.box w ⟨s, g, r⟩)
  have HB0 := Hid.mk hB0
  have HA1 := Hid.mk a1
  have HA3 := Hid.mk a3
  have HA4 := Hid.mk (fun W (hb : Below w.heap.size w W) => well_any hSt hTe W (hG.kept hb))
  unfold hC at HR0 HB0
  unfold hV at HA1 HA3 ⊢
  simp only at HA1 HA3 HB0 HR0 ⊢
  clear hB0 a1 a3
  clear hSt hTe hTi hG
  obtain ⟨m0, m1, m2⟩ := HR0.out.at
  simp only at m0 m1 m2
  go_enter Tryd.func4, Tryd.ntmps4
  go_wp2_with fail
  refine (HA1.out _ HB0.out).mono ?_
  rintro e w1 ⟨rfl, hb1⟩
  have HR1 := Hid.mk (HR0.out.kept hb1)
  have HB1 := Hid.mk (bl2 HB0.out hb1)
  obtain ⟨k0, k1, k2⟩ := HR1.out.at
  simp only at k0 k1 k2
  clear hb1 HR0 HB0 m0 m1 m2
  go_wp2_with fail
  refine (HA3.out _).mono ?_
  rintro e w2 ⟨rfl, hb2⟩
  have HR2 := Hid.mk (HR1.out.kept hb2)
  have HB2 := Hid.mk (bl2 HB1.out hb2)
  clear hb2 HR1 HB1 k0 k1 k2
  go_wp2_with fail
  refine (HA4.out _ HB2.out).mono ?_
  rintro e w3 ⟨rfl, hb3⟩
  have HR3 := Hid.mk (HR2.out.kept hb3)
  have HB3 := Hid.mk (bl2 HB2.out hb3)
  clear hb3 HR2 HB2
  obtain ⟨y0, y1, y2⟩ := HR3.out.at
  simp only at y0 y1 y2
  go_wp2_with fail
  refine (HA6.out _).mono ?_
  rintro e w5 ⟨rfl, hb5⟩
  have HR5 := Hid.mk (HR3.out.kept hb5)
  have HB5 := Hid.mk (bl2 HB3.out hb5)
  have HR6 := Hid.mk (HRow.box w5 ⟨s, g, r⟩)
  have HB6 := Hid.mk (bl2 HB5.out (hbox w5 ⟨s, g, r⟩))
  have HLE := Hid.mk HB5.out.size
  obtain ⟨x0, x1, x2⟩ := HR5.out.at
  unfold hC at HR6 HB6
  simp only at x0 x1 x2 HR6 HB6
  clear hb5 HR3 HB3 HB5 HR5 y0 y1 y2
  cases bz
  all_goals focus
    go_wp2_with fail
    go_loopw [51] (fun i wr => ∃ j : Nat, j ≤ t ∧ i = .int .i64 j ∧ Hid (HRow wr w5.heap.size (TK j)) ∧ Hid (Below w.heap.size w wr)) (fun i _ => t - (intOf i).toNat)
    case atStart => exact ⟨0, Nat.zero_le _, rfl, by rw [HT0.out]; exact HR6, HB6⟩
    case round =>
      clear HR6 HB6 x0 x1 x2
      obtain ⟨j, hj, rfl, HR, HB⟩ := hrel
      by_cases hlt : j < t
      · have hlt' : (j : Int) < (t : Int) := by omega
        have a7 := fun W => stepHealth_any (TK j) 3 W (HOK.out j) (by decide)
        have a8 := fun W => stateOf_any (TK j) W
        have hne : (stateH (TK j) == 2) = false := by rw [beq_eq_false_iff_ne]; exact HBE.out j hlt
        rw [← HTs.out j] at a7
        have HRR := HR.out
        generalize stateH (TK j) = sj at *
        obtain ⟨h1, hh1⟩ : ∃ h1, h1 = TK j := ⟨_, rfl⟩
        obtain ⟨h2, hh2⟩ : ∃ h2, h2 = TK (j + 1) := ⟨_, rfl⟩
        rw [← hh1, ← hh2] at a7
        rw [← hh1] at HRR a8
        have HH2 := Hid.mk hh2
        clear hh1 hh2
        obtain ⟨s1, g1, r1⟩ := h1
        obtain ⟨s2, g2, r2⟩ := h2
        have HR1 := Hid.mk HRR
        obtain ⟨m0, m1, m2⟩ := HR1.out.at
        simp only at m0 m1 m2
        unfold hV at a7 a8
        simp only at a7 a8
        have HA7 := Hid.mk a7
        have HA8 := Hid.mk a8
        clear a7 a8 HRR
        go_wp2_with fail
        refine (HA8.out _).mono ?_
        rintro e w7 ⟨rfl, hb7⟩
        have HR7 := Hid.mk (HR1.out.kept hb7)
        have HB7 := Hid.mk (bl2 HB.out hb7)
        obtain ⟨y0, y1, y2⟩ := HR7.out.at
        simp only at y0 y1 y2
        clear hb7 m0 m1 m2
        go_wp2_with fail
        refine (HA7.out _).mono ?_
        rintro e w8 ⟨rfl, hb8⟩
        have hA8 := HR7.out.kept hb8
        have HB8 := Hid.mk (bl2 HB7.out hb8)
        unfold HRow at hA8
        simp only at hA8
        clear hb8 y0 y1 y2
        have kc0 := cell_of_row w8 w5.heap.size 0 _ _ _ hA8
        have kz0 := frozen_of_row w8 w5.heap.size 0 _ _ hA8
        have ks0 := heap_setCell_same w8 w5.heap.size 0 _ _ (.int .i64 s2) hA8
        simp only [List.setIfInBounds_toArray, List.set_cons_zero] at ks0
        simp at kc0
        have kc1 := cell_of_row (w8.setCell ⟨w5.heap.size, 0, none⟩ (.int .i64 s2)) w5.heap.size 1 _ _ _ ks0
        have kz1 := frozen_of_row (w8.setCell ⟨w5.heap.size, 0, none⟩ (.int .i64 s2)) w5.heap.size 1 _ _ ks0
        have ks1 := heap_setCell_same (w8.setCell ⟨w5.heap.size, 0, none⟩ (.int .i64 s2)) w5.heap.size 1 _ _ (.int .i64 g2) ks0
        simp only [List.setIfInBounds_toArray, List.set_cons_zero, List.set_cons_succ] at ks1
        simp at kc1
        have kc2 := cell_of_row ((w8.setCell ⟨w5.heap.size, 0, none⟩ (.int .i64 s2)).setCell ⟨w5.heap.size, 1, none⟩ (.int .i64 g2)) w5.heap.size 2 _ _ _ ks1
        have kz2 := frozen_of_row ((w8.setCell ⟨w5.heap.size, 0, none⟩ (.int .i64 s2)).setCell ⟨w5.heap.size, 1, none⟩ (.int .i64 g2)) w5.heap.size 2 _ _ ks1
        have ks2 := heap_setCell_same ((w8.setCell ⟨w5.heap.size, 0, none⟩ (.int .i64 s2)).setCell ⟨w5.heap.size, 1, none⟩ (.int .i64 g2)) w5.heap.size 2 _ _ (.int .i64 r2) ks1
        simp only [List.setIfInBounds_toArray, List.set_cons_zero, List.set_cons_succ] at ks2
        simp at kc2
        have hT : Tch [w5.heap.size] w8 (((w8.setCell ⟨w5.heap.size, 0, none⟩ (.int .i64 s2)).setCell ⟨w5.heap.size, 1, none⟩ (.int .i64 g2)).setCell ⟨w5.heap.size, 2, none⟩ (.int .i64 r2)) := ((((Tch.refl [w5.heap.size] w8).setK (by simp) _ _).setK (by simp) _ _).setK (by simp) _ _)
        have HRn := Hid.mk (show HRow (((w8.setCell ⟨w5.heap.size, 0, none⟩ (.int .i64 s2)).setCell ⟨w5.heap.size, 1, none⟩ (.int .i64 g2)).setCell ⟨w5.heap.size, 2, none⟩ (.int .i64 r2)) w5.heap.size ⟨s2, g2, r2⟩ from ks2)
        have HBn := Hid.mk (Tch.below HB8.out hT (by intro q hq; have e : q = w5.heap.size := by simpa using hq
                                                     rw [e]; exact HLE.out) (Nat.le_refl _))
        rw [HH2.out] at HRn
        clear hT
        go_wp2_with fail
        go_roundw
        case rel => exact ⟨j + 1, by omega, by go_num, HRn, HBn⟩
        case measure => simp [intOf]; omega
      · have e : j = t := by omega
        have a8 := fun W => stateOf_any (TK j) W
        rw [show stateH (TK j) = 2 by rw [e]; exact HAT.out] at a8
        have HRR := HR.out
        generalize TK j = h1 at *
        obtain ⟨s1, g1, r1⟩ := h1
        obtain ⟨m0, m1, m2⟩ := HRR.at
        simp only at m0 m1 m2
        unfold hV at a8
        simp only at a8
        have HA8 := Hid.mk a8
        have hge : (t : Int) ≤ (j : Int) := by omega
        clear a8 HRR e
        go_wp2_with fail
        refine (HA8.out _).mono ?_
        rintro e w7 ⟨rfl, hb7⟩
        have HB7 := Hid.mk (bl2 HB.out hb7)
        clear hb7
        go_wp2_with fail
        go_ret
        exact ⟨rfl, HB7.out⟩
theorem htill_any (hSt : StepIs) (hTe : StateIs) (hTi : TillIs) (h : Hl) (w : World) (hG : ChgAt w) :
    Calls Tryd.prog 4 #[hV h] w fun e w' => e = .returned (.bool true) ∧ Below w.heap.size w w' := by
  rcases Bool.eq_false_or_eq_true (okB h) with ho | ho
  · exact htill_ok hSt hTe hTi h w hG ho
  · exact htill_bad hSt hTe hTi h w hG ho
end Bw
end Go.Proofs.YtemjjkjceeljbaaDoor
