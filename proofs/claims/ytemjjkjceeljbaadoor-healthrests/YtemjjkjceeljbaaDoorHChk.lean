/- What package health's within, isOff, isKind, Check and State answer. -/
import Derived.Test.YtemjjkjceeljbaaDoorHealthIs
namespace Go.Proofs.YtemjjkjceeljbaaDoor
open Go.ChangeShapes Go.WideShapes Go.ChangeAt Go.RowKit
namespace Bw
set_option maxHeartbeats 1000000 in
theorem within_any (n top : Int) (w : World) :
    Calls Tryd.prog 20 #[.int .i64 n, .int .i64 top] w fun e w' => e = .returned (.bool (decide (0 ≤ n) && decide (n ≤ top))) ∧ w' = w := by
  by_cases h0 : 0 ≤ n
  · by_cases h1 : n ≤ top
    · have e : (decide (0 ≤ n) && decide (n ≤ top)) = true := by simp [h0, h1]
      rw [e]
      clear e
      go_enter Tryd.func20, Tryd.ntmps20
      go_wp2_with fail
      go_ret
      exact ⟨rfl, rfl⟩
    · have e : (decide (0 ≤ n) && decide (n ≤ top)) = false := by simp [h1]
      rw [e]
      clear e
      go_enter Tryd.func20, Tryd.ntmps20
      go_wp2_with fail
      go_ret
      exact ⟨rfl, rfl⟩
  · have e : (decide (0 ≤ n) && decide (n ≤ top)) = false := by simp [h0]
    rw [e]
    clear e
    go_enter Tryd.func20, Tryd.ntmps20
    go_wp2_with fail
    go_ret
    exact ⟨rfl, rfl⟩
theorem isKind_any (n : Int) (w : World) :
    Calls Tryd.prog 15 #[.int .i64 n] w fun e w' => e = .returned (.bool (isW n)) ∧ w' = w := by
  by_cases h0 : 0 < n
  · by_cases h1 : n < 7
    · have e : isW n = true := by unfold isW; simp; omega
      rw [e]
      clear e
      go_enter Tryd.func15, Tryd.ntmps15
      go_wp2_with fail
      go_ret
      exact ⟨rfl, rfl⟩
    · have e : isW n = false := by unfold isW; simp; omega
      rw [e]
      clear e
      go_enter Tryd.func15, Tryd.ntmps15
      go_wp2_with fail
      go_ret
      exact ⟨rfl, rfl⟩
  · have e : isW n = false := by unfold isW; simp; omega
    rw [e]
    clear e
    go_enter Tryd.func15, Tryd.ntmps15
    go_wp2_with fail
    go_ret
    exact ⟨rfl, rfl⟩
set_option maxHeartbeats 1000000 in
theorem isOff_any (h : Hl) (w : World) :
    Calls Tryd.prog 16 #[hV h] w fun e w' => e = .returned (.bool (h.s == 256)) ∧ Below w.heap.size w w' := by
  obtain ⟨s, g, r⟩ := h
  have HB := Hid.mk (hbox w ⟨s, g, r⟩)
  obtain ⟨k0, k1, k2⟩ := HAt.box w ⟨s, g, r⟩
  unfold hC at HB k0 k1 k2
  unfold hV
  simp only at k0 k1 k2 HB ⊢
  go_enter Tryd.func16, Tryd.ntmps16
  go_wp2_with fail
  go_ret
  exact ⟨rfl, HB.out⟩
set_option maxHeartbeats 4000000 in
theorem hcheck_any : CheckIs := by
  intro h w
  obtain ⟨s, g, r⟩ := h
  have hI0 := fun W => within_any s 256 W
  have hI1 := fun W => within_any g 255 W
  have hI2 := fun W => within_any r 127 W
  have hI3 := fun W => isOff_any ⟨s, g, r⟩ W
  have hB := hbox w ⟨s, g, r⟩
  obtain ⟨k0, k1, k2⟩ := HAt.box w ⟨s, g, r⟩
  unfold hC at hB k0 k1 k2
  unfold hV at hI3 ⊢
  simp only at k0 k1 k2 hB hI3 ⊢
  have HB := Hid.mk hB
  clear hB
  by_cases a0 : 0 ≤ s ∧ s ≤ 256
  · by_cases a1 : 0 ≤ g ∧ g ≤ 255
    · by_cases a2 : 0 ≤ r ∧ r ≤ 127
      · by_cases a4 : 0 < r
        · by_cases a3 : s = 256
          · have hres : chkH ⟨s, g, r⟩ = 0 := by
              unfold chkH okB
              simp only
              rw [if_pos (decide_eq_true (by omega))]
            rw [hres]
            have e0 : (decide (0 ≤ s) && decide (s ≤ 256)) = true := by simp; omega
            rw [e0] at hI0
            have HI0 := Hid.mk hI0
            have e1 : (decide (0 ≤ g) && decide (g ≤ 255)) = true := by simp; omega
            rw [e1] at hI1
            have HI1 := Hid.mk hI1
            have e2 : (decide (0 ≤ r) && decide (r ≤ 127)) = true := by simp; omega
            rw [e2] at hI2
            have HI2 := Hid.mk hI2
            have e3 : (s == 256) = true := by simpa using a3
            rw [e3] at hI3
            have HI3 := Hid.mk hI3
            clear e3 a3
            clear hres hI0 hI1 hI2 hI3 e0 e1 e2
            go_enter Tryd.func10, Tryd.ntmps10
            go_wp2_with fail
            refine (HI0.out _).mono ?_
            rintro e w1 ⟨rfl, hw1⟩
            subst hw1
            go_wp2_with fail
            refine (HI1.out _).mono ?_
            rintro e w2 ⟨rfl, hw2⟩
            subst hw2
            go_wp2_with fail
            refine (HI2.out _).mono ?_
            rintro e w3 ⟨rfl, hw3⟩
            subst hw3
            go_wp2_with fail
            refine (HI3.out _).mono ?_
            rintro e w4 ⟨rfl, hb4⟩
            have HB4 := Hid.mk (bl2 HB.out hb4)
            clear hb4
            go_wp2_with fail
            go_ret
            exact ⟨rfl, HB4.out⟩
          · have hres : chkH ⟨s, g, r⟩ = 3 := by
              unfold chkH okB
              simp only
              rw [if_neg (by rw [decide_eq_true_iff]; omega)]
            rw [hres]
            have e0 : (decide (0 ≤ s) && decide (s ≤ 256)) = true := by simp; omega
            rw [e0] at hI0
            have HI0 := Hid.mk hI0
            have e1 : (decide (0 ≤ g) && decide (g ≤ 255)) = true := by simp; omega
            rw [e1] at hI1
            have HI1 := Hid.mk hI1
            have e2 : (decide (0 ≤ r) && decide (r ≤ 127)) = true := by simp; omega
            rw [e2] at hI2
            have HI2 := Hid.mk hI2
            have e3 : (s == 256) = false := by simpa using a3
            rw [e3] at hI3
            have HI3 := Hid.mk hI3
            clear e3 a3
            clear hres hI0 hI1 hI2 hI3 e0 e1 e2
            go_enter Tryd.func10, Tryd.ntmps10
            go_wp2_with fail
            refine (HI0.out _).mono ?_
            rintro e w1 ⟨rfl, hw1⟩
            subst hw1
            go_wp2_with fail
            refine (HI1.out _).mono ?_
            rintro e w2 ⟨rfl, hw2⟩
            subst hw2
            go_wp2_with fail
            refine (HI2.out _).mono ?_
            rintro e w3 ⟨rfl, hw3⟩
            subst hw3
            go_wp2_with fail
            refine (HI3.out _).mono ?_
            rintro e w4 ⟨rfl, hb4⟩
            have HB4 := Hid.mk (bl2 HB.out hb4)
            clear hb4
            go_wp2_with fail
            go_ret
            exact ⟨rfl, HB4.out⟩
        · have hres : chkH ⟨s, g, r⟩ = 0 := by
            unfold chkH okB
            simp only
            rw [if_pos (decide_eq_true (by omega))]
          rw [hres]
          have e0 : (decide (0 ≤ s) && decide (s ≤ 256)) = true := by simp; omega
          rw [e0] at hI0
          have HI0 := Hid.mk hI0
          have e1 : (decide (0 ≤ g) && decide (g ≤ 255)) = true := by simp; omega
          rw [e1] at hI1
          have HI1 := Hid.mk hI1
          have e2 : (decide (0 ≤ r) && decide (r ≤ 127)) = true := by simp; omega
          rw [e2] at hI2
          have HI2 := Hid.mk hI2
          clear hres hI0 hI1 hI2 hI3 e0 e1 e2
          go_enter Tryd.func10, Tryd.ntmps10
          go_wp2_with fail
          refine (HI0.out _).mono ?_
          rintro e w1 ⟨rfl, hw1⟩
          subst hw1
          go_wp2_with fail
          refine (HI1.out _).mono ?_
          rintro e w2 ⟨rfl, hw2⟩
          subst hw2
          go_wp2_with fail
          refine (HI2.out _).mono ?_
          rintro e w3 ⟨rfl, hw3⟩
          subst hw3
          go_wp2_with fail
          go_ret
          exact ⟨rfl, HB.out⟩
      · have hres : chkH ⟨s, g, r⟩ = 3 := by
          unfold chkH okB
          simp only
          rw [if_neg (by rw [decide_eq_true_iff]; omega)]
        rw [hres]
        have e0 : (decide (0 ≤ s) && decide (s ≤ 256)) = true := by simp; omega
        rw [e0] at hI0
        have HI0 := Hid.mk hI0
        have e1 : (decide (0 ≤ g) && decide (g ≤ 255)) = true := by simp; omega
        rw [e1] at hI1
        have HI1 := Hid.mk hI1
        have e2 : (decide (0 ≤ r) && decide (r ≤ 127)) = false := by simp; omega
        rw [e2] at hI2
        have HI2 := Hid.mk hI2
        clear hres hI0 hI1 hI2 hI3 e0 e1 e2
        go_enter Tryd.func10, Tryd.ntmps10
        go_wp2_with fail
        refine (HI0.out _).mono ?_
        rintro e w1 ⟨rfl, hw1⟩
        subst hw1
        go_wp2_with fail
        refine (HI1.out _).mono ?_
        rintro e w2 ⟨rfl, hw2⟩
        subst hw2
        go_wp2_with fail
        refine (HI2.out _).mono ?_
        rintro e w3 ⟨rfl, hw3⟩
        subst hw3
        go_wp2_with fail
        go_ret
        exact ⟨rfl, HB.out⟩
    · have hres : chkH ⟨s, g, r⟩ = 3 := by
        unfold chkH okB
        simp only
        rw [if_neg (by rw [decide_eq_true_iff]; omega)]
      rw [hres]
      have e0 : (decide (0 ≤ s) && decide (s ≤ 256)) = true := by simp; omega
      rw [e0] at hI0
      have HI0 := Hid.mk hI0
      have e1 : (decide (0 ≤ g) && decide (g ≤ 255)) = false := by simp; omega
      rw [e1] at hI1
      have HI1 := Hid.mk hI1
      clear hres hI0 hI1 hI2 hI3 e0 e1
      go_enter Tryd.func10, Tryd.ntmps10
      go_wp2_with fail
      refine (HI0.out _).mono ?_
      rintro e w1 ⟨rfl, hw1⟩
      subst hw1
      go_wp2_with fail
      refine (HI1.out _).mono ?_
      rintro e w2 ⟨rfl, hw2⟩
      subst hw2
      go_wp2_with fail
      go_ret
      exact ⟨rfl, HB.out⟩
  · have hres : chkH ⟨s, g, r⟩ = 3 := by
      unfold chkH okB
      simp only
      rw [if_neg (by rw [decide_eq_true_iff]; omega)]
    rw [hres]
    have e0 : (decide (0 ≤ s) && decide (s ≤ 256)) = false := by simp; omega
    rw [e0] at hI0
    have HI0 := Hid.mk hI0
    clear hres hI0 hI1 hI2 hI3 e0
    go_enter Tryd.func10, Tryd.ntmps10
    go_wp2_with fail
    refine (HI0.out _).mono ?_
    rintro e w1 ⟨rfl, hw1⟩
    subst hw1
    go_wp2_with fail
    go_ret
    exact ⟨rfl, HB.out⟩
set_option maxHeartbeats 4000000 in
theorem hstate_any : StateIs := by
  intro h w
  have hC := fun W => hcheck_any h W
  have hO := fun W => isOff_any h W
  have HB := Hid.mk (hbox w h)
  have HR := Hid.mk (HAt.box w h)
  rcases Bool.eq_false_or_eq_true (okB h) with ho | ho
  · have hC0 : chkH h = 0 := by unfold chkH; rw [if_pos ho]
    rw [if_pos ho, hC0]
    rw [hC0] at hC
    clear hC0 ho
    obtain ⟨s, g, r⟩ := h
    obtain ⟨k0, k1, k2⟩ := HR.out
    unfold Bw.hC at HB HR k0 k1 k2
    unfold hV at hC hO ⊢
    simp only at hC hO HB HR k0 k1 k2 ⊢
    have HC := Hid.mk hC
    clear hC
    by_cases a0 : s = 256
    · have hres : stateH ⟨s, g, r⟩ = 2 := by unfold stateH; simp only; rw [if_pos a0]
      have b0 : (s == 256) = true := by simpa using a0
      rw [hres]
      rw [b0] at hO
      have HO := Hid.mk hO
      clear a0 hres hO b0
      go_enter Tryd.func7, Tryd.ntmps7
      go_wp2_with fail
      refine (HC.out _).mono ?_
      rintro e w1 ⟨rfl, hb1⟩
      have HB1 := Hid.mk (bl2 HB.out hb1)
      obtain ⟨j0, j1, j2⟩ := HR.out.kept hb1
      simp only at j0 j1 j2
      clear hb1 k0 k1 k2
      go_wp2_with fail
      refine (HO.out _).mono ?_
      rintro e w2 ⟨rfl, hb2⟩
      have HB2 := Hid.mk (bl2 HB1.out hb2)
      clear hb2
      go_wp2_with fail
      go_ret2
      exact ⟨rfl, HB2.out⟩
    · have b0 : (s == 256) = false := by simpa using a0
      rw [b0] at hO
      have HO := Hid.mk hO
      by_cases a1 : 128 ≤ s ∨ 128 ≤ g
      · have hres : stateH ⟨s, g, r⟩ = 1 := by unfold stateH; simp only; rw [if_neg a0, if_pos a1]
        rw [hres]
        have b1 : (127 : Int) < max s g := by omega
        clear a0 a1 hres hO b0
        go_enter Tryd.func7, Tryd.ntmps7
        go_wp2_with fail
        refine (HC.out _).mono ?_
        rintro e w1 ⟨rfl, hb1⟩
        have HB1 := Hid.mk (bl2 HB.out hb1)
        have HR1 := Hid.mk (HR.out.kept hb1)
        obtain ⟨j0, j1, j2⟩ := HR1.out
        simp only at j0 j1 j2
        clear hb1 k0 k1 k2
        go_wp2_with fail
        refine (HO.out _).mono ?_
        rintro e w2 ⟨rfl, hb2⟩
        have HB2 := Hid.mk (bl2 HB1.out hb2)
        obtain ⟨i0, i1, i2⟩ := HR1.out.kept hb2
        simp only at i0 i1 i2
        clear hb2 j0 j1 j2
        go_wp2_with fail
        all_goals focus
          go_ret2
          exact ⟨rfl, HB2.out⟩
      · have hres : stateH ⟨s, g, r⟩ = 0 := by unfold stateH; simp only; rw [if_neg a0, if_neg a1]
        rw [hres]
        have b1 : max s g ≤ (127 : Int) := by omega
        clear a0 a1 hres hO b0
        go_enter Tryd.func7, Tryd.ntmps7
        go_wp2_with fail
        refine (HC.out _).mono ?_
        rintro e w1 ⟨rfl, hb1⟩
        have HB1 := Hid.mk (bl2 HB.out hb1)
        have HR1 := Hid.mk (HR.out.kept hb1)
        obtain ⟨j0, j1, j2⟩ := HR1.out
        simp only at j0 j1 j2
        clear hb1 k0 k1 k2
        go_wp2_with fail
        refine (HO.out _).mono ?_
        rintro e w2 ⟨rfl, hb2⟩
        have HB2 := Hid.mk (bl2 HB1.out hb2)
        obtain ⟨i0, i1, i2⟩ := HR1.out.kept hb2
        simp only at i0 i1 i2
        clear hb2 j0 j1 j2
        go_wp2_with fail
        all_goals focus
          go_ret2
          exact ⟨rfl, HB2.out⟩
  · have hC3 : chkH h = 3 := by unfold chkH; rw [if_neg (by rw [ho]; decide)]
    rw [if_neg (by rw [ho]; decide), hC3]
    rw [hC3] at hC
    clear hC3 ho hO
    obtain ⟨s, g, r⟩ := h
    obtain ⟨k0, k1, k2⟩ := HR.out
    unfold Bw.hC at HB HR k0 k1 k2
    unfold hV at hC ⊢
    simp only at hC HB HR k0 k1 k2 ⊢
    have HC := Hid.mk hC
    clear hC
    go_enter Tryd.func7, Tryd.ntmps7
    go_wp2_with fail
    refine (HC.out _).mono ?_
    rintro e w1 ⟨rfl, hb1⟩
    have HB1 := Hid.mk (bl2 HB.out hb1)
    clear hb1 k0 k1 k2
    go_wp2_with fail
    go_ret2
    exact ⟨rfl, HB1.out⟩
end Bw
end Go.Proofs.YtemjjkjceeljbaaDoor
