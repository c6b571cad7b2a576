/- omnibusbig's whole numbers: Cmp. -/
import Derived.Test.YtgknolliicachaaDoorBigZ
namespace Go.Proofs.YtgknolliicachaaDoor
open Go.ChangeShapes Go.WideShapes Go.ChangeAt Go.RowKit Go.Sort
namespace Ww
open Wm
open Bw (Tch bl2 cell_kept)
def cmpI (x y : Int) : Int := if x < y then -1 else if y < x then 1 else 0
theorem abs_smallC {r : Int} (h1 : -4611686018427387903 ≤ r) (h2 : r ≤ 4611686018427387903) {xs : List Nat} (hv : valW xs = r.natAbs) : valW xs < 2 ^ 62 := by omega
theorem cmpI_pos {x y : Int} (hx : ¬ x < 0) (hy : ¬ y < 0) : cmpN x.natAbs y.natAbs = cmpI x y := by
  unfold cmpN cmpI
  by_cases h : x < y
  · rw [if_pos (by omega), if_pos h]
  · rw [if_neg (by omega), if_neg h]
    by_cases h2 : y < x
    · rw [if_pos (by omega), if_pos h2]
    · rw [if_neg (by omega), if_neg h2]
theorem cmpI_neg {x y : Int} (hx : x < 0) (hy : y < 0) : -cmpN x.natAbs y.natAbs = cmpI x y := by
  unfold cmpN cmpI
  by_cases h : x < y
  · rw [if_neg (by omega), if_pos (by omega), if_pos h]
  · rw [if_neg h]
    by_cases h2 : y < x
    · rw [if_pos (by omega), if_pos h2]; rfl
    · rw [if_neg (by omega), if_neg (by omega), if_neg h2]; rfl
theorem cmpN_b (x y : Nat) : -1 ≤ cmpN x y ∧ cmpN x y ≤ 1 := by
  unfold cmpN
  split
  · omega
  · split <;> omega
set_option maxHeartbeats 8000000 in
set_option maxRecDepth 100000 in
theorem icmp_z (gx ox gy oy : Nat) (x y : Int) (w : World) (hx : ZAt w gx ox x) (hy : ZAt w gy oy y) (hx1 : -4611686018427387903 ≤ x) (hx2 : x ≤ 4611686018427387903) (hy1 : -4611686018427387903 ≤ y) (hy2 : y ≤ 4611686018427387903) :
    Calls Tryd.prog 54 #[.pointer (some ⟨gx, ox, none⟩), .pointer (some ⟨gy, oy, none⟩)] w fun e w' => e = .returned (.int .i64 (cmpI x y)) ∧ Below w.heap.size w w' := by
  obtain ⟨va, xs, a1, a2, a3, a4, a5⟩ := hx
  obtain ⟨vb, ys, b1, b2, b3, b4, b5⟩ := hy
  have hla := len_two a4 (abs_smallC hx1 hx2 a5)
  have hlb := len_two b4 (abs_smallC hy1 hy2 b5)
  have hC := fun W (h : Below w.heap.size w W) => cmp_any va vb xs ys W (a3.below h) (b3.below h) a4 b4 (by omega) (by omega)
  rw [a5, b5] at hC
  obtain ⟨la, na, ca, rfl⟩ := a3.sliceB
  obtain ⟨lb, nb, cb, rfl⟩ := b3.sliceB
  have hcb := cmpN_b x.natAbs y.natAbs
  by_cases hX : x < 0
  · rw [decide_eq_true hX] at a1
    by_cases hY : y < 0
    · rw [decide_eq_true hY] at b1
      rw [← cmpI_neg hX hY]
      generalize cmpN x.natAbs y.natAbs = C at *
      obtain ⟨hc1, hc2⟩ := hcb
      have HC := Hid.mk hC
      clear hx1 hx2 hy1 hy2 a3 a4 a5 b3 b4 b5 hla hlb hC hX hY
      go_enter Tryd.func54, Tryd.ntmps54
      go_wp2_with fail
      go_quiet (fail)
      obtain ⟨W1, hW1⟩ : ∃ W1, W1 = w.drewN nq := ⟨_, rfl⟩
      have HB1 := Hid.mk (show Below w.heap.size w W1 by rw [hW1]; exact drBw w _)
      rw [← hW1]
      clear hW1
      have k1 := cell_kept HB1.out a1
      have k2 := cell_kept HB1.out a2
      have k4 := cell_kept HB1.out b2
      clear a1 a2 b1 b2
      go_wp2_with fail
      have rx2 := fun d os => cell_kept (below_regrown W1 d os) k2
      have rx4 := fun d os => cell_kept (below_regrown W1 d os) k4
      refine wp_region_quiet_below (by kernel_rfl) (by kernel_rfl) ?_
      repeat (go_big_quiet_step ((go_at_call 79; exact Calls.regrown_of (HC.out _ (bl2 HB1.out (below_regrown W1 _ _))))))
      refine wpQuiet_nil ?_
      intro _ hw'
      obtain ⟨⟨dq, osq⟩, hw''⟩ := hw'
      have hbq := below_regrown W1 dq osq
      rw [hw'']
      generalize grow (redrawn W1 dq) osq = W2 at *
      have HB2 := Hid.mk (bl2 HB1.out hbq)
      have k5 := cell_kept hbq k1
      clear hw'' hbq rx2 rx4 k1 k2 k4
      go_wp2_with fail
      go_ret
      exact ⟨rfl, HB2.out⟩
    · rw [decide_eq_false hY] at b1
      have hr : cmpI x y = -1 := by unfold cmpI; rw [if_pos (by omega)]
      rw [hr]
      clear hx1 hx2 hy1 hy2 a3 a4 a5 b3 b4 b5 hla hlb hC hX hY hcb hr
      go_enter Tryd.func54, Tryd.ntmps54
      go_wp2_with fail
      go_quiet (fail)
      obtain ⟨W1, hW1⟩ : ∃ W1, W1 = w.drewN nq := ⟨_, rfl⟩
      have HB1 := Hid.mk (show Below w.heap.size w W1 by rw [hW1]; exact drBw w _)
      rw [← hW1]
      clear hW1
      have k1 := cell_kept HB1.out a1
      clear a1 a2 b1 b2
      go_wp2_with fail
      go_ret
      exact ⟨rfl, HB1.out⟩
  · rw [decide_eq_false hX] at a1
    by_cases hY : y < 0
    · rw [decide_eq_true hY] at b1
      have hr : cmpI x y = 1 := by unfold cmpI; rw [if_neg (by omega), if_pos (by omega)]
      rw [hr]
      clear hx1 hx2 hy1 hy2 a3 a4 a5 b3 b4 b5 hla hlb hC hX hY hcb hr
      go_enter Tryd.func54, Tryd.ntmps54
      go_wp2_with fail
      go_quiet (fail)
      obtain ⟨W1, hW1⟩ : ∃ W1, W1 = w.drewN nq := ⟨_, rfl⟩
      have HB1 := Hid.mk (show Below w.heap.size w W1 by rw [hW1]; exact drBw w _)
      rw [← hW1]
      clear hW1
      have k1 := cell_kept HB1.out a1
      clear a1 a2 b1 b2
      go_wp2_with fail
      go_ret
      exact ⟨rfl, HB1.out⟩
    · rw [decide_eq_false hY] at b1
      rw [← cmpI_pos hX hY]
      generalize cmpN x.natAbs y.natAbs = C at *
      have HC := Hid.mk hC
      clear hx1 hx2 hy1 hy2 a3 a4 a5 b3 b4 b5 hla hlb hC hX hY hcb
      go_enter Tryd.func54, Tryd.ntmps54
      go_wp2_with fail
      go_quiet (fail)
      obtain ⟨W1, hW1⟩ : ∃ W1, W1 = w.drewN nq := ⟨_, rfl⟩
      have HB1 := Hid.mk (show Below w.heap.size w W1 by rw [hW1]; exact drBw w _)
      rw [← hW1]
      clear hW1
      have k1 := cell_kept HB1.out a1
      have k2 := cell_kept HB1.out a2
      have k4 := cell_kept HB1.out b2
      clear a1 a2 b1 b2
      go_wp2_with fail
      have rx2 := fun d os => cell_kept (below_regrown W1 d os) k2
      have rx4 := fun d os => cell_kept (below_regrown W1 d os) k4
      refine wp_region_quiet_below (by kernel_rfl) (by kernel_rfl) ?_
      repeat (go_big_quiet_step ((go_at_call 79; exact Calls.regrown_of (HC.out _ (bl2 HB1.out (below_regrown W1 _ _))))))
      refine wpQuiet_nil ?_
      intro _ hw'
      obtain ⟨⟨dq, osq⟩, hw''⟩ := hw'
      have hbq := below_regrown W1 dq osq
      rw [hw'']
      generalize grow (redrawn W1 dq) osq = W2 at *
      have HB2 := Hid.mk (bl2 HB1.out hbq)
      have k5 := cell_kept hbq k1
      clear hw'' hbq rx2 rx4 k1 k2 k4
      go_wp2_with fail
      go_ret
      exact ⟨rfl, HB2.out⟩
end Ww
end Go.Proofs.YtgknolliicachaaDoor
