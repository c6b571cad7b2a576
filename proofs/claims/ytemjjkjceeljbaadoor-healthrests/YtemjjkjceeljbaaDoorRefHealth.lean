/- What the document's own CheckHealth, StateOf and StepHealth answer. -/
import Derived.Test.YtemjjkjceeljbaaDoorHealthMath
import Derived.Test.YtemjjkjceeljbaaDoorBase0
import Derived.Test.YtemjjkjceeljbaaDoorTchKit
namespace Go.Proofs.YtemjjkjceeljbaaDoor
open Go.ChangeShapes Go.WideShapes Go.ChangeAt Go.RowKit
namespace Bw
def hV (h : Hl) : Value := .agg #[.int .i64 h.s, .int .i64 h.g, .int .i64 h.r]
def hC (h : Hl) : Obj := .cells #[.int .i64 h.s, .int .i64 h.g, .int .i64 h.r] 23
structure HAt (w : World) (b : Nat) (h : Hl) : Prop where
  c0 : w.cell? ⟨b, 0, none⟩ = some (.int .i64 h.s)
  c1 : w.cell? ⟨b, 1, none⟩ = some (.int .i64 h.g)
  c2 : w.cell? ⟨b, 2, none⟩ = some (.int .i64 h.r)
theorem HAt.box (w : World) (h : Hl) : HAt (w.alloc (hC h)) w.heap.size h := by
  have q := fun j => cell_of_row (w.alloc (hC h)) w.heap.size j _ _ _ (heap_alloc_new w _)
  exact ⟨q 0, q 1, q 2⟩
theorem HAt.kept {w w' : World} {b : Nat} {h : Hl} (q : HAt w b h) (hb : Below w.heap.size w w') : HAt w' b h := ⟨cell_kept hb q.c0, cell_kept hb q.c1, cell_kept hb q.c2⟩
theorem hbox (w : World) (h : Hl) : Below w.heap.size w (w.alloc (hC h)) := (Below.refl _ _).alloc (Nat.le_refl _) _
set_option maxHeartbeats 1000000 in
theorem inRange_any (n top : Int) (w : World) :
    Calls Tryd.prog 19 #[.int .i64 n, .int .i64 top] w fun e w' => e = .returned (.bool (decide (0 ≤ n) && decide (n ≤ top))) ∧ w' = w := by
  by_cases h0 : 0 ≤ n
  · by_cases h1 : n ≤ top
    · have e : (decide (0 ≤ n) && decide (n ≤ top)) = true := by simp [h0, h1]
      rw [e]
      clear e
      go_enter Tryd.func19, Tryd.ntmps19
      go_wp2_with fail
      go_ret
      exact ⟨rfl, rfl⟩
    · have e : (decide (0 ≤ n) && decide (n ≤ top)) = false := by simp [h1]
      rw [e]
      clear e
      go_enter Tryd.func19, Tryd.ntmps19
      go_wp2_with fail
      go_ret
      exact ⟨rfl, rfl⟩
  · have e : (decide (0 ≤ n) && decide (n ≤ top)) = false := by simp [h0]
    rw [e]
    clear e
    go_enter Tryd.func19, Tryd.ntmps19
    go_wp2_with fail
    go_ret
    exact ⟨rfl, rfl⟩
set_option maxHeartbeats 4000000 in
theorem checkHealth_any (h : Hl) (w : World) :
    Calls Tryd.prog 8 #[hV h] w fun e w' => e = .returned (.int .i64 (chkH h)) ∧ Below w.heap.size w w' := by
  obtain ⟨s, g, r⟩ := h
  have hI0 := fun W => inRange_any s 256 W
  have hI1 := fun W => inRange_any g 255 W
  have hI2 := fun W => inRange_any r 127 W
  have hB := hbox w ⟨s, g, r⟩
  obtain ⟨k0, k1, k2⟩ := HAt.box w ⟨s, g, r⟩
  unfold hC at hB k0 k1 k2
  unfold hV
  simp only at k0 k1 k2 hB ⊢
  have HB := Hid.mk hB
  clear hB
  by_cases a0 : 0 ≤ s ∧ s ≤ 256
  · by_cases a1 : 0 ≤ g ∧ g ≤ 255
    · by_cases a2 : 0 ≤ r ∧ r ≤ 127
      · by_cases a3 : s = 256
        · have b3 : (s != 256) = false := by simpa using a3
          have hres : chkH ⟨s, g, r⟩ = 0 := by
            unfold chkH okB
            simp only
            rw [if_pos (decide_eq_true (by omega))]
          rw [hres]
          have e0 : (decide (0 ≤ s) && decide (s ≤ 256)) = true := by simp; omega
          rw [e0] at hI0
          have HI0 := Hid.mk hI0
          have e1 : (decide (0 ≤ g) && decide (g ≤ 255)) = true := by simp; omega
          rw [e1] at hI1
          have HI1 := Hid.mk hI1
          have e2 : (decide (0 ≤ r) && decide (r ≤ 127)) = true := by simp; omega
          rw [e2] at hI2
          have HI2 := Hid.mk hI2
          clear a3
          clear hres hI0 hI1 hI2 e0 e1 e2
          go_enter Tryd.func8, Tryd.ntmps8
          go_wp2_with fail
          refine (HI0.out _).mono ?_
          rintro e w1 ⟨rfl, hw1⟩
          subst hw1
          go_wp2_with fail
          refine (HI1.out _).mono ?_
          rintro e w2 ⟨rfl, hw2⟩
          subst hw2
          go_wp2_with fail
          refine (HI2.out _).mono ?_
          rintro e w3 ⟨rfl, hw3⟩
          subst hw3
          go_wp2_with fail
          go_ret
          exact ⟨rfl, HB.out⟩
        · have b3 : (s != 256) = true := by simpa using a3
          by_cases a4 : r = 0
          · have b4 : (r != 0) = false := by simpa using a4
            have hres : chkH ⟨s, g, r⟩ = 0 := by
              unfold chkH okB
              simp only
              rw [if_pos (decide_eq_true (by omega))]
            rw [hres]
            have e0 : (decide (0 ≤ s) && decide (s ≤ 256)) = true := by simp; omega
            rw [e0] at hI0
            have HI0 := Hid.mk hI0
            have e1 : (decide (0 ≤ g) && decide (g ≤ 255)) = true := by simp; omega
            rw [e1] at hI1
            have HI1 := Hid.mk hI1
            have e2 : (decide (0 ≤ r) && decide (r ≤ 127)) = true := by simp; omega
            rw [e2] at hI2
            have HI2 := Hid.mk hI2
            clear a3 a4
            clear hres hI0 hI1 hI2 e0 e1 e2
            go_enter Tryd.func8, Tryd.ntmps8
            go_wp2_with fail
            refine (HI0.out _).mono ?_
            rintro e w1 ⟨rfl, hw1⟩
            subst hw1
            go_wp2_with fail
            refine (HI1.out _).mono ?_
            rintro e w2 ⟨rfl, hw2⟩
            subst hw2
            go_wp2_with fail
            refine (HI2.out _).mono ?_
            rintro e w3 ⟨rfl, hw3⟩
            subst hw3
            go_wp2_with fail
            go_ret
            exact ⟨rfl, HB.out⟩
          · have b4 : (r != 0) = true := by simpa using a4
            have hres : chkH ⟨s, g, r⟩ = 3 := by
              unfold chkH okB
              simp only
              rw [if_neg (by rw [decide_eq_true_iff]; omega)]
            rw [hres]
            have e0 : (decide (0 ≤ s) && decide (s ≤ 256)) = true := by simp; omega
            rw [e0] at hI0
            have HI0 := Hid.mk hI0
            have e1 : (decide (0 ≤ g) && decide (g ≤ 255)) = true := by simp; omega
            rw [e1] at hI1
            have HI1 := Hid.mk hI1
            have e2 : (decide (0 ≤ r) && decide (r ≤ 127)) = true := by simp; omega
            rw [e2] at hI2
            have HI2 := Hid.mk hI2
            clear a3 a4
            clear hres hI0 hI1 hI2 e0 e1 e2
            go_enter Tryd.func8, Tryd.ntmps8
            go_wp2_with fail
            refine (HI0.out _).mono ?_
            rintro e w1 ⟨rfl, hw1⟩
            subst hw1
            go_wp2_with fail
            refine (HI1.out _).mono ?_
            rintro e w2 ⟨rfl, hw2⟩
            subst hw2
            go_wp2_with fail
            refine (HI2.out _).mono ?_
            rintro e w3 ⟨rfl, hw3⟩
            subst hw3
            go_wp2_with fail
            go_ret
            exact ⟨rfl, HB.out⟩
      · have hres : chkH ⟨s, g, r⟩ = 3 := by
          unfold chkH okB
          simp only
          rw [if_neg (by rw [decide_eq_true_iff]; omega)]
        rw [hres]
        have e0 : (decide (0 ≤ s) && decide (s ≤ 256)) = true := by simp; omega
        rw [e0] at hI0
        have HI0 := Hid.mk hI0
        have e1 : (decide (0 ≤ g) && decide (g ≤ 255)) = true := by simp; omega
        rw [e1] at hI1
        have HI1 := Hid.mk hI1
        have e2 : (decide (0 ≤ r) && decide (r ≤ 127)) = false := by simp; omega
        rw [e2] at hI2
        have HI2 := Hid.mk hI2
        clear hres hI0 hI1 hI2 e0 e1 e2
        go_enter Tryd.func8, Tryd.ntmps8
        go_wp2_with fail
        refine (HI0.out _).mono ?_
        rintro e w1 ⟨rfl, hw1⟩
        subst hw1
        go_wp2_with fail
        refine (HI1.out _).mono ?_
        rintro e w2 ⟨rfl, hw2⟩
        subst hw2
        go_wp2_with fail
        refine (HI2.out _).mono ?_
        rintro e w3 ⟨rfl, hw3⟩
        subst hw3
        go_wp2_with fail
        go_ret
        exact ⟨rfl, HB.out⟩
    · have hres : chkH ⟨s, g, r⟩ = 3 := by
        unfold chkH okB
        simp only
        rw [if_neg (by rw [decide_eq_true_iff]; omega)]
      rw [hres]
      have e0 : (decide (0 ≤ s) && decide (s ≤ 256)) = true := by simp; omega
      rw [e0] at hI0
      have HI0 := Hid.mk hI0
      have e1 : (decide (0 ≤ g) && decide (g ≤ 255)) = false := by simp; omega
      rw [e1] at hI1
      have HI1 := Hid.mk hI1
      clear hres hI0 hI1 hI2 e0 e1
      go_enter Tryd.func8, Tryd.ntmps8
      go_wp2_with fail
      refine (HI0.out _).mono ?_
      rintro e w1 ⟨rfl, hw1⟩
      subst hw1
      go_wp2_with fail
      refine (HI1.out _).mono ?_
      rintro e w2 ⟨rfl, hw2⟩
      subst hw2
      go_wp2_with fail
      go_ret
      exact ⟨rfl, HB.out⟩
  · have hres : chkH ⟨s, g, r⟩ = 3 := by
      unfold chkH okB
      simp only
      rw [if_neg (by rw [decide_eq_true_iff]; omega)]
    rw [hres]
    have e0 : (decide (0 ≤ s) && decide (s ≤ 256)) = false := by simp; omega
    rw [e0] at hI0
    have HI0 := Hid.mk hI0
    clear hres hI0 hI1 hI2 e0
    go_enter Tryd.func8, Tryd.ntmps8
    go_wp2_with fail
    refine (HI0.out _).mono ?_
    rintro e w1 ⟨rfl, hw1⟩
    subst hw1
    go_wp2_with fail
    go_ret
    exact ⟨rfl, HB.out⟩
set_option maxHeartbeats 2000000 in
theorem stateOf_any (h : Hl) (w : World) :
    Calls Tryd.prog 11 #[hV h] w fun e w' => e = .returned (.int .i64 (stateH h)) ∧ Below w.heap.size w w' := by
  obtain ⟨s, g, r⟩ := h
  have hB := hbox w ⟨s, g, r⟩
  obtain ⟨k0, k1, k2⟩ := HAt.box w ⟨s, g, r⟩
  unfold hC at hB k0 k1 k2
  unfold hV
  simp only at k0 k1 k2 hB ⊢
  have HB := Hid.mk hB
  clear hB
  by_cases a0 : s = 256
  · have hres : stateH ⟨s, g, r⟩ = 2 := by unfold stateH; simp only; rw [if_pos a0]
    rw [hres]
    have b0 : (s == 256) = true := by simpa using a0
    clear a0 hres
    go_enter Tryd.func11, Tryd.ntmps11
    go_wp2_with fail
    go_ret
    exact ⟨rfl, HB.out⟩
  · have b0 : (s == 256) = false := by simpa using a0
    by_cases a1 : 128 ≤ s ∨ 128 ≤ g
    · have hres : stateH ⟨s, g, r⟩ = 1 := by unfold stateH; simp only; rw [if_neg a0, if_pos a1]
      rw [hres]
      have b1 : (128 : Int) ≤ max s g := by omega
      clear a0 a1 hres
      go_enter Tryd.func11, Tryd.ntmps11
      go_wp2_with fail
      all_goals focus
        go_ret
        exact ⟨rfl, HB.out⟩
    · have hres : stateH ⟨s, g, r⟩ = 0 := by unfold stateH; simp only; rw [if_neg a0, if_neg a1]
      rw [hres]
      have b1 : max s g < (128 : Int) := by omega
      clear a0 a1 hres
      go_enter Tryd.func11, Tryd.ntmps11
      go_wp2_with fail
      all_goals focus
        go_ret
        exact ⟨rfl, HB.out⟩
end Bw
end Go.Proofs.YtemjjkjceeljbaaDoor
