/- What route.linesOf's own function answers of two lines: it draws once and lays blocks, nothing else. -/
import Derived.Test.YtapjiopnjfldhaaDoorRtState
import Derived.Sort.Grow
import Derived.Deep.RegionHeld3
import Derived.Lib.Small
import Derived.Shelf.SlSortCmp.Insertion
namespace Go.Proofs.YtapjiopnjfldhaaDoor
open Go.ChangeShapes Go.WideShapes Go.ChangeAt Go.RowKit
namespace Bw
open Bm
set_option linter.unusedVariables false
set_option maxHeartbeats 1000000 in
theorem isNaN_int (x : Int) (w : World) : Calls Tryd.prog 84 #[.int .i64 x] w fun e w' => e = .returned (.bool false) ∧ w' = w := by
  go_enter Tryd.func84, Tryd.ntmps84
  go_wp2
  go_ret
  exact ⟨by simp, rfl⟩
set_option maxHeartbeats 1000000 in
theorem cmp_int (x y : Int) (w : World) : Calls Tryd.prog 67 #[.int .i64 x, .int .i64 y] w fun e w' => e = .returned (.int .i64 (Lib.compareInt x y)) ∧ w' = w := by
  go_enter Tryd.func67, Tryd.ntmps67
  go_wp2_with (go_at_call 84; refine (isNaN_int _ _).mono ?_; rintro e w' ⟨rfl, hw⟩; rw [hw])
  all_goals (go_ret; refine ⟨?_, rfl⟩; unfold Lib.compareInt; (repeat' split) <;> first | rfl | (exfalso; omega))
def orI (a b : Int) : Int := if a = 0 then b else a
set_option maxHeartbeats 1000000 in
theorem or_two (a b : Int) (g : Nat) (w : World) (h0 : w.cell? ⟨g, 0, none⟩ = some (.int .i64 a)) (h1 : w.cell? ⟨g, 1, none⟩ = some (.int .i64 b)) :
    Calls Tryd.prog 66 #[.slice (some ⟨g, 0, none⟩) 2 2] w fun e w' => e = .returned (.int .i64 (orI a b)) ∧ w' = w := by
  by_cases ha : a = 0
  · subst ha
    have e : orI 0 b = b := by simp [orI]
    rw [e]
    by_cases hb : b = 0
    · subst hb
      go_enter Tryd.func66, Tryd.ntmps66
      go_wp2
      refine wp_loop_rounds 3 ?_
      rw [rounds_succ]
      go_wp2
      rw [rounds_succ]
      go_wp2
      rw [rounds_succ]
      go_wp2
      go_ret
      exact ⟨rfl, rfl⟩
    · have hb' : (b == 0) = false := by rw [beq_eq_false_iff_ne]; exact hb
      go_enter Tryd.func66, Tryd.ntmps66
      go_wp2
      refine wp_loop_rounds 2 ?_
      rw [rounds_succ]
      go_wp2
      rw [rounds_succ]
      go_wp2
      go_ret
      exact ⟨rfl, rfl⟩
  · have ha' : (a == 0) = false := by rw [beq_eq_false_iff_ne]; exact ha
    have e : orI a b = a := by simp [orI, ha]
    rw [e]
    go_enter Tryd.func66, Tryd.ntmps66
    go_wp2
    refine wp_loop_rounds 1 ?_
    rw [rounds_succ]
    go_wp2
    go_ret
    exact ⟨rfl, rfl⟩
theorem grow3 (W : World) (o1 o2 o3 : Obj) : (((W.alloc o1).alloc o2).alloc o3).drew = Go.Sort.grow (W.drewN 1) (#[o1] ++ #[o2] ++ #[o3]) := by
  rw [Go.Sort.alloc_eq_grow, Go.Sort.alloc_eq_grow, Go.Sort.alloc_eq_grow, Go.Sort.grow_grow, Go.Sort.grow_grow]
  rfl
/-- by bus, then by number -/
def cmpE (u v : LnR) : Int := orI (Lib.compareInt u.bs v.bs) (Lib.compareInt u.id v.id)
set_option maxHeartbeats 4000000 in
set_option maxRecDepth 100000 in
theorem cmpL_any (u v : LnR) (W : World) : Calls Tryd.prog 65 #[.agg u.cl.toArray, .agg v.cl.toArray] W fun e w' => e = .returned (.int .i64 (cmpE u v)) ∧ ∃ q os', w' = Go.Sort.grow (W.drewN q) os' := by
  obtain ⟨t1, b1, i1, l1, f1, r1, z1, a1, n1, c1⟩ := u
  obtain ⟨t2, b2, i2, l2, f2, r2, z2, a2, n2, c2⟩ := v
  unfold cmpE LnR.cl
  simp only
  have hc := fun x y W => cmp_int x y W
  have ho := fun a b g W h0 h1 => or_two a b g W h0 h1
  have k1 : ((W.alloc (.cells #[.int .i64 t1, .int .i64 b1, .int .i64 i1, .bool l1, .bool f1, .bool r1, .int .i64 z1, .slice a1 n1 c1] 49)).alloc (.cells #[.int .i64 t2, .int .i64 b2, .int .i64 i2, .bool l2, .bool f2, .bool r2, .int .i64 z2, .slice a2 n2 c2] 49)).heap[W.heap.size]? = some (.cells #[.int .i64 t1, .int .i64 b1, .int .i64 i1, .bool l1, .bool f1, .bool r1, .int .i64 z1, .slice a1 n1 c1] 49 (0, 0)) := ((awB (W.alloc _) _).block _ (by simp)).trans (heap_alloc_new W _)
  have k2 : ((W.alloc (.cells #[.int .i64 t1, .int .i64 b1, .int .i64 i1, .bool l1, .bool f1, .bool r1, .int .i64 z1, .slice a1 n1 c1] 49)).alloc (.cells #[.int .i64 t2, .int .i64 b2, .int .i64 i2, .bool l2, .bool f2, .bool r2, .int .i64 z2, .slice a2 n2 c2] 49)).heap[W.heap.size + 1]? = some (.cells #[.int .i64 t2, .int .i64 b2, .int .i64 i2, .bool l2, .bool f2, .bool r2, .int .i64 z2, .slice a2 n2 c2] 49 (0, 0)) := by
    have h := heap_alloc_new (W.alloc (.cells #[.int .i64 t1, .int .i64 b1, .int .i64 i1, .bool l1, .bool f1, .bool r1, .int .i64 z1, .slice a1 n1 c1] 49)) (.cells #[.int .i64 t2, .int .i64 b2, .int .i64 i2, .bool l2, .bool f2, .bool r2, .int .i64 z2, .slice a2 n2 c2] 49)
    rw [show (W.alloc (.cells #[.int .i64 t1, .int .i64 b1, .int .i64 i1, .bool l1, .bool f1, .bool r1, .int .i64 z1, .slice a1 n1 c1] 49)).heap.size = W.heap.size + 1 by simp] at h
    exact h
  obtain ⟨W0, hW0⟩ : ∃ W0, W0 = (W.alloc (.cells #[.int .i64 t1, .int .i64 b1, .int .i64 i1, .bool l1, .bool f1, .bool r1, .int .i64 z1, .slice a1 n1 c1] 49)).alloc (.cells #[.int .i64 t2, .int .i64 b2, .int .i64 i2, .bool l2, .bool f2, .bool r2, .int .i64 z2, .slice a2 n2 c2] 49) := ⟨_, rfl⟩
  rw [← hW0] at k1 k2
  have HW0 := Hid.mk hW0
  have d1 : W0.drew.cell? ⟨W.heap.size, 1, none⟩ = some (.int .i64 b1) := cell_of_row W0 _ 1 _ _ _ k1
  have d2 : W0.drew.cell? ⟨W.heap.size, 2, none⟩ = some (.int .i64 i1) := cell_of_row W0 _ 2 _ _ _ k1
  have d3 : W0.drew.cell? ⟨W.heap.size + 1, 1, none⟩ = some (.int .i64 b2) := cell_of_row W0 _ 1 _ _ _ k2
  have d4 : W0.drew.cell? ⟨W.heap.size + 1, 2, none⟩ = some (.int .i64 i2) := cell_of_row W0 _ 2 _ _ _ k2
  obtain ⟨C1, hC1⟩ : ∃ C1, C1 = Lib.compareInt b1 b2 := ⟨_, rfl⟩
  obtain ⟨C2, hC2⟩ : ∃ C2, C2 = Lib.compareInt i1 i2 := ⟨_, rfl⟩
  have hc1 := fun W => cmp_int b1 b2 W
  have hc2 := fun W => cmp_int i1 i2 W
  rw [← hC1] at hc1 ⊢
  rw [← hC2] at hc2 ⊢
  have HC1 := Hid.mk hc1
  have HC2 := Hid.mk hc2
  have HO := Hid.mk (or_two C1 C2 W0.heap.size (W0.alloc (.cells #[.int .i64 C1, .int .i64 C2] 3)).drew (cell_of_row (W0.alloc (.cells #[.int .i64 C1, .int .i64 C2] 3)) _ 0 _ _ _ (heap_alloc_new W0 _)) (cell_of_row (W0.alloc (.cells #[.int .i64 C1, .int .i64 C2] 3)) _ 1 _ _ _ (heap_alloc_new W0 _)))
  have e1 : (W0.alloc (.cells #[.int .i64 C1, .int .i64 C2] 3)).drew.cell? ⟨W.heap.size, 1, none⟩ = some (.int .i64 b1) := cell_kept (awB W0 _) d1
  have e2 : (W0.alloc (.cells #[.int .i64 C1, .int .i64 C2] 3)).drew.cell? ⟨W.heap.size, 2, none⟩ = some (.int .i64 i1) := cell_kept (awB W0 _) d2
  have e3 : (W0.alloc (.cells #[.int .i64 C1, .int .i64 C2] 3)).drew.cell? ⟨W.heap.size + 1, 1, none⟩ = some (.int .i64 b2) := cell_kept (awB W0 _) d3
  have e4 : (W0.alloc (.cells #[.int .i64 C1, .int .i64 C2] 3)).drew.cell? ⟨W.heap.size + 1, 2, none⟩ = some (.int .i64 i2) := cell_kept (awB W0 _) d4
  clear hc ho k1 k2 hc1 hc2 hC1 hC2
  go_enter Tryd.func65, Tryd.ntmps65
  go_wp2_with fail
  rw [← hW0]
  clear hW0
  go_region_held3 (fun w' => w'.cell? ⟨W.heap.size, 1, none⟩ = some (.int .i64 b1) ∧ w'.cell? ⟨W.heap.size, 2, none⟩ = some (.int .i64 i1) ∧ w'.cell? ⟨W.heap.size + 1, 1, none⟩ = some (.int .i64 b2) ∧ w'.cell? ⟨W.heap.size + 1, 2, none⟩ = some (.int .i64 i2)) (simp [*]) (first
    | (go_at_call 67; with_reducible refine (HC1.out _).mono ?_; rintro e w' ⟨rfl, rfl⟩)
    | (go_at_call 67; with_reducible refine (HC2.out _).mono ?_; rintro e w' ⟨rfl, rfl⟩)
    | (go_at_call 66; with_reducible refine HO.out.mono ?_; rintro e w' ⟨rfl, rfl⟩))
  go_wp2_with fail
  refine bodyPost_ret (results_tmp rfl _ _ _) rfl ?_
  exact ⟨rfl, 1, _, by rw [HW0.out]; exact grow3 _ _ _ _⟩
theorem cmpE_lt (u v : LnR) : ltOf cmpE u v = decide (u.bs < v.bs ∨ (u.bs = v.bs ∧ u.id < v.id)) := by
  unfold ltOf cmpE orI Lib.compareInt
  by_cases h1 : u.bs < v.bs
  · simp [h1]
  · by_cases h2 : v.bs < u.bs
    · have h3 : ¬ u.bs = v.bs := by omega
      simp [h1, h2, h3]
    · have h3 : u.bs = v.bs := by omega
      by_cases h4 : u.id < v.id
      · simp [h3, h4]
      · by_cases h5 : v.id < u.id <;> simp [h3, h4, h5]
end Bw
end Go.Proofs.YtapjiopnjfldhaaDoor
