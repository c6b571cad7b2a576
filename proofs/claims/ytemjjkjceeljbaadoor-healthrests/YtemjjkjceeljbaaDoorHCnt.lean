/- What package health's rested and counted answer. -/
import Derived.Test.YtemjjkjceeljbaaDoorHealthIs
import Derived.Test.YtemjjkjceeljbaaDoorRefHstep
import Derived.RegionTactic
import Derived.BigRegion
namespace Go.Proofs.YtemjjkjceeljbaaDoor
open Go.ChangeShapes Go.WideShapes Go.ChangeAt Go.RowKit
namespace Bw
theorem res1 (k : Nat) (fn : Func) (hf : fn.results = #[.cell k 23]) (tmps : Array Value) (w : World) (g : Nat) (cs : Array Value) (hp : tmps.getD k undef = .pointer (some ⟨g, 0, none⟩)) (h : w.heap[g]? = some (.cells cs 23 (0, 0))) (hs : cs.size = 3) :
    (results fn tmps).run Tryd.prog w = .ok (.agg cs) w := by
  have hl := run_loadVar_row (P := Tryd.prog) w g 23 23 cs (0, 0) _ h Tryd.underlying23 rfl (by rw [health_i, hs])
  have hp' : tmps[k]?.getD undef = .pointer (some ⟨g, 0, none⟩) := by simpa using hp
  simp [results, hf, hp', asAddr, hl]
set_option maxHeartbeats 2000000 in
set_option maxRecDepth 100000 in
theorem rested_more (s g r : Int) (w : World) (hr : r + 1 ≠ 128) (hr0 : 0 ≤ r) (hr1 : r ≤ 127) :
    Calls Tryd.prog 18 #[.agg #[.int .i64 s, .int .i64 g, .int .i64 r]] w fun e w' => e = .returned (.agg #[.int .i64 s, .int .i64 g, .int .i64 (r + 1)]) ∧ Below w.heap.size w w' := by
  have b2 : (r + 1 == 128) = false := by simpa using hr
  clear hr
  go_enter Tryd.func18, Tryd.ntmps18
  go_wp2_with fail
  refine bodyPost_ret (res1 2 _ rfl _ _ (w.heap.size + 1) _ rfl (new2 w _ _) rfl) rfl ?_
  exact ⟨rfl, below2 w _ _⟩
set_option maxHeartbeats 2000000 in
set_option maxRecDepth 100000 in
theorem rested_well (s g r : Int) (w : World) (hr : r = 127) :
    Calls Tryd.prog 18 #[.agg #[.int .i64 s, .int .i64 g, .int .i64 r]] w fun e w' => e = .returned (.agg #[.int .i64 0, .int .i64 0, .int .i64 0]) ∧ Below w.heap.size w w' := by
  subst hr
  go_enter Tryd.func18, Tryd.ntmps18
  go_wp2_with fail
  refine bodyPost_ret (res1 2 _ rfl _ _ (w.heap.size + 1) _ rfl (new2 w _ _) rfl) rfl ?_
  exact ⟨rfl, below2 w _ _⟩
set_option maxHeartbeats 4000000 in
set_option maxRecDepth 100000 in
theorem cnt_1a (s g r : Int) (w : World) (hC : ChgAt w) (h1 : 0 ≤ s) (h2 : s ≤ 255) (h3 : 0 ≤ g) (h4 : g ≤ 255) (h5 : 0 < s) :
    Calls Tryd.prog 17 #[.agg #[.int .i64 s, .int .i64 g, .int .i64 r], .int .i64 1] w fun e w' => e = .returned (.agg #[.int .i64 (s + -1), .int .i64 (g), .int .i64 r]) ∧ Below w.heap.size w w' := by
  have t0 := hC 2 (by decide)
  have t1 := hC 3 (by decide)
  simp only [chgL, List.getD_cons_zero, List.getD_cons_succ] at t0 t1
  have u0 := cell_kept (below2 w (.cells #[.int .i64 (s), .int .i64 (g), .int .i64 r] 23) (.cells #[.int .i64 0, .int .i64 0, .int .i64 0] 23)) t0
  have u1 := cell_kept (below2 w (.cells #[.int .i64 (s + -1), .int .i64 (g), .int .i64 r] 23) (.cells #[.int .i64 0, .int .i64 0, .int .i64 0] 23)) t1
  clear t0 t1 hC
  go_enter Tryd.func17, Tryd.ntmps17
  go_wp2_with fail
  go_region
  go_wp2_with fail
  go_region
  go_wp2_with fail
  refine bodyPost_ret (res1 4 _ rfl _ _ (w.heap.size + 1) _ rfl (new2 w _ _) rfl) rfl ?_
  exact ⟨rfl, (below2 w _ _).drew.drew⟩
set_option maxHeartbeats 4000000 in
set_option maxRecDepth 100000 in
theorem cnt_1b (s g r : Int) (w : World) (hC : ChgAt w) (h1 : 0 ≤ s) (h2 : s ≤ 255) (h3 : 0 ≤ g) (h4 : g ≤ 255) (h5 : s ≤ 0) :
    Calls Tryd.prog 17 #[.agg #[.int .i64 s, .int .i64 g, .int .i64 r], .int .i64 1] w fun e w' => e = .returned (.agg #[.int .i64 (0), .int .i64 (g), .int .i64 r]) ∧ Below w.heap.size w w' := by
  have t0 := hC 2 (by decide)
  have t1 := hC 3 (by decide)
  simp only [chgL, List.getD_cons_zero, List.getD_cons_succ] at t0 t1
  have u0 := cell_kept (below2 w (.cells #[.int .i64 (s), .int .i64 (g), .int .i64 r] 23) (.cells #[.int .i64 0, .int .i64 0, .int .i64 0] 23)) t0
  have u1 := cell_kept (below2 w (.cells #[.int .i64 (0), .int .i64 (g), .int .i64 r] 23) (.cells #[.int .i64 0, .int .i64 0, .int .i64 0] 23)) t1
  clear t0 t1 hC
  go_enter Tryd.func17, Tryd.ntmps17
  go_wp2_with fail
  go_region
  go_wp2_with fail
  go_region
  go_wp2_with fail
  refine bodyPost_ret (res1 4 _ rfl _ _ (w.heap.size + 1) _ rfl (new2 w _ _) rfl) rfl ?_
  exact ⟨rfl, (below2 w _ _).drew.drew⟩
set_option maxHeartbeats 4000000 in
set_option maxRecDepth 100000 in
theorem cnt_2a (s g r : Int) (w : World) (hC : ChgAt w) (h1 : 0 ≤ s) (h2 : s ≤ 255) (h5 : 127 < g) :
    Calls Tryd.prog 17 #[.agg #[.int .i64 s, .int .i64 g, .int .i64 r], .int .i64 2] w fun e w' => e = .returned (.agg #[.int .i64 (s), .int .i64 (126), .int .i64 r]) ∧ Below w.heap.size w w' := by
  have t0 := hC 4 (by decide)
  have t1 := hC 5 (by decide)
  simp only [chgL, List.getD_cons_zero, List.getD_cons_succ] at t0 t1
  have u0 := cell_kept (below2 w (.cells #[.int .i64 (s), .int .i64 (127), .int .i64 r] 23) (.cells #[.int .i64 0, .int .i64 0, .int .i64 0] 23)) t0
  have u1 := cell_kept (below2 w (.cells #[.int .i64 (s), .int .i64 (127), .int .i64 r] 23) (.cells #[.int .i64 0, .int .i64 0, .int .i64 0] 23)) t1
  clear t0 t1 hC
  go_enter Tryd.func17, Tryd.ntmps17
  go_wp2_with fail
  go_region
  go_wp2_with fail
  go_region
  go_wp2_with fail
  refine bodyPost_ret (res1 4 _ rfl _ _ (w.heap.size + 1) _ rfl (new2 w _ _) rfl) rfl ?_
  exact ⟨rfl, (below2 w _ _).drew.drew⟩
set_option maxHeartbeats 4000000 in
set_option maxRecDepth 100000 in
theorem cnt_2b (s g r : Int) (w : World) (hC : ChgAt w) (h1 : 0 ≤ s) (h2 : s ≤ 255) (h3 : 0 ≤ g) (h4 : g ≤ 255) (h5 : g ≤ 127) (h6 : 0 < g) :
    Calls Tryd.prog 17 #[.agg #[.int .i64 s, .int .i64 g, .int .i64 r], .int .i64 2] w fun e w' => e = .returned (.agg #[.int .i64 (s), .int .i64 (g + -1), .int .i64 r]) ∧ Below w.heap.size w w' := by
  have t0 := hC 4 (by decide)
  have t1 := hC 5 (by decide)
  simp only [chgL, List.getD_cons_zero, List.getD_cons_succ] at t0 t1
  have u0 := cell_kept (below2 w (.cells #[.int .i64 (s), .int .i64 (g), .int .i64 r] 23) (.cells #[.int .i64 0, .int .i64 0, .int .i64 0] 23)) t0
  have u1 := cell_kept (below2 w (.cells #[.int .i64 (s), .int .i64 (g), .int .i64 r] 23) (.cells #[.int .i64 0, .int .i64 0, .int .i64 0] 23)) t1
  clear t0 t1 hC
  go_enter Tryd.func17, Tryd.ntmps17
  go_wp2_with fail
  go_region
  go_wp2_with fail
  go_region
  go_wp2_with fail
  refine bodyPost_ret (res1 4 _ rfl _ _ (w.heap.size + 1) _ rfl (new2 w _ _) rfl) rfl ?_
  exact ⟨rfl, (below2 w _ _).drew.drew⟩
set_option maxHeartbeats 4000000 in
set_option maxRecDepth 100000 in
theorem cnt_2c (s g r : Int) (w : World) (hC : ChgAt w) (h1 : 0 ≤ s) (h2 : s ≤ 255) (h3 : 0 ≤ g) (h4 : g ≤ 255) (h5 : g ≤ 0) :
    Calls Tryd.prog 17 #[.agg #[.int .i64 s, .int .i64 g, .int .i64 r], .int .i64 2] w fun e w' => e = .returned (.agg #[.int .i64 (s), .int .i64 (0), .int .i64 r]) ∧ Below w.heap.size w w' := by
  have t0 := hC 4 (by decide)
  have t1 := hC 5 (by decide)
  simp only [chgL, List.getD_cons_zero, List.getD_cons_succ] at t0 t1
  have u0 := cell_kept (below2 w (.cells #[.int .i64 (s), .int .i64 (g), .int .i64 r] 23) (.cells #[.int .i64 0, .int .i64 0, .int .i64 0] 23)) t0
  have u1 := cell_kept (below2 w (.cells #[.int .i64 (s), .int .i64 (g), .int .i64 r] 23) (.cells #[.int .i64 0, .int .i64 0, .int .i64 0] 23)) t1
  clear t0 t1 hC
  go_enter Tryd.func17, Tryd.ntmps17
  go_wp2_with fail
  go_region
  go_wp2_with fail
  go_region
  go_wp2_with fail
  refine bodyPost_ret (res1 4 _ rfl _ _ (w.heap.size + 1) _ rfl (new2 w _ _) rfl) rfl ?_
  exact ⟨rfl, (below2 w _ _).drew.drew⟩
set_option maxHeartbeats 4000000 in
set_option maxRecDepth 100000 in
theorem cnt_3a (s g r : Int) (w : World) (hC : ChgAt w) (h1 : 0 ≤ s) (h2 : s ≤ 255) (h3 : 0 ≤ g) (h4 : g ≤ 255) (h5 : s ≤ 248) :
    Calls Tryd.prog 17 #[.agg #[.int .i64 s, .int .i64 g, .int .i64 r], .int .i64 3] w fun e w' => e = .returned (.agg #[.int .i64 (s + 8), .int .i64 (g), .int .i64 r]) ∧ Below w.heap.size w w' := by
  have t0 := hC 6 (by decide)
  have t1 := hC 7 (by decide)
  simp only [chgL, List.getD_cons_zero, List.getD_cons_succ] at t0 t1
  have u0 := cell_kept (below2 w (.cells #[.int .i64 (s), .int .i64 (g), .int .i64 r] 23) (.cells #[.int .i64 0, .int .i64 0, .int .i64 0] 23)) t0
  have u1 := cell_kept (below2 w (.cells #[.int .i64 (s + 8), .int .i64 (g), .int .i64 r] 23) (.cells #[.int .i64 0, .int .i64 0, .int .i64 0] 23)) t1
  clear t0 t1 hC
  go_enter Tryd.func17, Tryd.ntmps17
  go_wp2_with fail
  go_region
  go_wp2_with fail
  go_region
  go_wp2_with fail
  refine bodyPost_ret (res1 4 _ rfl _ _ (w.heap.size + 1) _ rfl (new2 w _ _) rfl) rfl ?_
  exact ⟨rfl, (below2 w _ _).drew.drew⟩
set_option maxHeartbeats 4000000 in
set_option maxRecDepth 100000 in
theorem cnt_3b (s g r : Int) (w : World) (hC : ChgAt w) (h1 : 0 ≤ s) (h2 : s ≤ 255) (h3 : 0 ≤ g) (h4 : g ≤ 255) (h5 : 248 < s) :
    Calls Tryd.prog 17 #[.agg #[.int .i64 s, .int .i64 g, .int .i64 r], .int .i64 3] w fun e w' => e = .returned (.agg #[.int .i64 (256), .int .i64 (g), .int .i64 r]) ∧ Below w.heap.size w w' := by
  have t0 := hC 6 (by decide)
  have t1 := hC 7 (by decide)
  simp only [chgL, List.getD_cons_zero, List.getD_cons_succ] at t0 t1
  have u0 := cell_kept (below2 w (.cells #[.int .i64 (s), .int .i64 (g), .int .i64 r] 23) (.cells #[.int .i64 0, .int .i64 0, .int .i64 0] 23)) t0
  have u1 := cell_kept (below2 w (.cells #[.int .i64 (256), .int .i64 (g), .int .i64 r] 23) (.cells #[.int .i64 0, .int .i64 0, .int .i64 0] 23)) t1
  clear t0 t1 hC
  go_enter Tryd.func17, Tryd.ntmps17
  go_wp2_with fail
  go_region
  go_wp2_with fail
  go_region
  go_wp2_with fail
  refine bodyPost_ret (res1 4 _ rfl _ _ (w.heap.size + 1) _ rfl (new2 w _ _) rfl) rfl ?_
  exact ⟨rfl, (below2 w _ _).drew.drew⟩
set_option maxHeartbeats 4000000 in
set_option maxRecDepth 100000 in
theorem cnt_4a (s g r : Int) (w : World) (hC : ChgAt w) (h1 : 0 ≤ s) (h2 : s ≤ 255) (h3 : 0 ≤ g) (h4 : g ≤ 255) (h5 : g < 255) :
    Calls Tryd.prog 17 #[.agg #[.int .i64 s, .int .i64 g, .int .i64 r], .int .i64 4] w fun e w' => e = .returned (.agg #[.int .i64 (s), .int .i64 (g + 1), .int .i64 r]) ∧ Below w.heap.size w w' := by
  have t0 := hC 8 (by decide)
  have t1 := hC 9 (by decide)
  simp only [chgL, List.getD_cons_zero, List.getD_cons_succ] at t0 t1
  have u0 := cell_kept (below2 w (.cells #[.int .i64 (s), .int .i64 (g), .int .i64 r] 23) (.cells #[.int .i64 0, .int .i64 0, .int .i64 0] 23)) t0
  have u1 := cell_kept (below2 w (.cells #[.int .i64 (s), .int .i64 (g), .int .i64 r] 23) (.cells #[.int .i64 0, .int .i64 0, .int .i64 0] 23)) t1
  clear t0 t1 hC
  go_enter Tryd.func17, Tryd.ntmps17
  go_wp2_with fail
  go_region
  go_wp2_with fail
  go_region
  go_wp2_with fail
  refine bodyPost_ret (res1 4 _ rfl _ _ (w.heap.size + 1) _ rfl (new2 w _ _) rfl) rfl ?_
  exact ⟨rfl, (below2 w _ _).drew.drew⟩
set_option maxHeartbeats 4000000 in
set_option maxRecDepth 100000 in
theorem cnt_4b (s g r : Int) (w : World) (hC : ChgAt w) (h1 : 0 ≤ s) (h2 : s ≤ 255) (h3 : 0 ≤ g) (h4 : g ≤ 255) (h5 : 255 ≤ g) :
    Calls Tryd.prog 17 #[.agg #[.int .i64 s, .int .i64 g, .int .i64 r], .int .i64 4] w fun e w' => e = .returned (.agg #[.int .i64 (s), .int .i64 (255), .int .i64 r]) ∧ Below w.heap.size w w' := by
  have t0 := hC 8 (by decide)
  have t1 := hC 9 (by decide)
  simp only [chgL, List.getD_cons_zero, List.getD_cons_succ] at t0 t1
  have u0 := cell_kept (below2 w (.cells #[.int .i64 (s), .int .i64 (g), .int .i64 r] 23) (.cells #[.int .i64 0, .int .i64 0, .int .i64 0] 23)) t0
  have u1 := cell_kept (below2 w (.cells #[.int .i64 (s), .int .i64 (g), .int .i64 r] 23) (.cells #[.int .i64 0, .int .i64 0, .int .i64 0] 23)) t1
  clear t0 t1 hC
  go_enter Tryd.func17, Tryd.ntmps17
  go_wp2_with fail
  go_region
  go_wp2_with fail
  go_region
  go_wp2_with fail
  refine bodyPost_ret (res1 4 _ rfl _ _ (w.heap.size + 1) _ rfl (new2 w _ _) rfl) rfl ?_
  exact ⟨rfl, (below2 w _ _).drew.drew⟩
set_option maxHeartbeats 4000000 in
set_option maxRecDepth 100000 in
theorem cnt_5a (s g r : Int) (w : World) (hC : ChgAt w) (h1 : 0 ≤ s) (h2 : s ≤ 255) (h3 : 0 ≤ g) (h4 : g ≤ 255) (h5 : g ≤ 247) :
    Calls Tryd.prog 17 #[.agg #[.int .i64 s, .int .i64 g, .int .i64 r], .int .i64 5] w fun e w' => e = .returned (.agg #[.int .i64 (s), .int .i64 (g + 8), .int .i64 r]) ∧ Below w.heap.size w w' := by
  have t0 := hC 10 (by decide)
  have t1 := hC 11 (by decide)
  simp only [chgL, List.getD_cons_zero, List.getD_cons_succ] at t0 t1
  have u0 := cell_kept (below2 w (.cells #[.int .i64 (s), .int .i64 (g), .int .i64 r] 23) (.cells #[.int .i64 0, .int .i64 0, .int .i64 0] 23)) t0
  have u1 := cell_kept (below2 w (.cells #[.int .i64 (s), .int .i64 (g), .int .i64 r] 23) (.cells #[.int .i64 0, .int .i64 0, .int .i64 0] 23)) t1
  clear t0 t1 hC
  go_enter Tryd.func17, Tryd.ntmps17
  go_wp2_with fail
  go_region
  go_wp2_with fail
  go_region
  go_wp2_with fail
  refine bodyPost_ret (res1 4 _ rfl _ _ (w.heap.size + 1) _ rfl (new2 w _ _) rfl) rfl ?_
  exact ⟨rfl, (below2 w _ _).drew.drew⟩
set_option maxHeartbeats 4000000 in
set_option maxRecDepth 100000 in
theorem cnt_5b (s g r : Int) (w : World) (hC : ChgAt w) (h1 : 0 ≤ s) (h2 : s ≤ 255) (h3 : 0 ≤ g) (h4 : g ≤ 255) (h5 : 247 < g) :
    Calls Tryd.prog 17 #[.agg #[.int .i64 s, .int .i64 g, .int .i64 r], .int .i64 5] w fun e w' => e = .returned (.agg #[.int .i64 (s), .int .i64 (255), .int .i64 r]) ∧ Below w.heap.size w w' := by
  have t0 := hC 10 (by decide)
  have t1 := hC 11 (by decide)
  simp only [chgL, List.getD_cons_zero, List.getD_cons_succ] at t0 t1
  have u0 := cell_kept (below2 w (.cells #[.int .i64 (s), .int .i64 (g), .int .i64 r] 23) (.cells #[.int .i64 0, .int .i64 0, .int .i64 0] 23)) t0
  have u1 := cell_kept (below2 w (.cells #[.int .i64 (s), .int .i64 (g), .int .i64 r] 23) (.cells #[.int .i64 0, .int .i64 0, .int .i64 0] 23)) t1
  clear t0 t1 hC
  go_enter Tryd.func17, Tryd.ntmps17
  go_wp2_with fail
  go_region
  go_wp2_with fail
  go_region
  go_wp2_with fail
  refine bodyPost_ret (res1 4 _ rfl _ _ (w.heap.size + 1) _ rfl (new2 w _ _) rfl) rfl ?_
  exact ⟨rfl, (below2 w _ _).drew.drew⟩
set_option maxHeartbeats 4000000 in
set_option maxRecDepth 100000 in
theorem cnt_6 (s g r : Int) (w : World) (hC : ChgAt w) (h1 : 0 ≤ s) (h2 : s ≤ 255) (h3 : 0 ≤ g) (h4 : g ≤ 255) :
    Calls Tryd.prog 17 #[.agg #[.int .i64 s, .int .i64 g, .int .i64 r], .int .i64 6] w fun e w' => e = .returned (.agg #[.int .i64 (s), .int .i64 (g), .int .i64 r]) ∧ Below w.heap.size w w' := by
  have t0 := hC 12 (by decide)
  have t1 := hC 13 (by decide)
  simp only [chgL, List.getD_cons_zero, List.getD_cons_succ] at t0 t1
  have u0 := cell_kept (below2 w (.cells #[.int .i64 (s), .int .i64 (g), .int .i64 r] 23) (.cells #[.int .i64 0, .int .i64 0, .int .i64 0] 23)) t0
  have u1 := cell_kept (below2 w (.cells #[.int .i64 (s), .int .i64 (g), .int .i64 r] 23) (.cells #[.int .i64 0, .int .i64 0, .int .i64 0] 23)) t1
  clear t0 t1 hC
  go_enter Tryd.func17, Tryd.ntmps17
  go_wp2_with fail
  go_region
  go_wp2_with fail
  go_region
  go_wp2_with fail
  refine bodyPost_ret (res1 4 _ rfl _ _ (w.heap.size + 1) _ rfl (new2 w _ _) rfl) rfl ?_
  exact ⟨rfl, (below2 w _ _).drew.drew⟩
theorem rested_any (h : Hl) (w : World) (ho : okH h) (h0 : h.s = 256) :
    Calls Tryd.prog 18 #[hV h] w fun e w' => e = .returned (hV (stepH h 6)) ∧ Below w.heap.size w w' := by
  obtain ⟨s, g, r⟩ := h
  unfold okH at ho
  simp only at ho h0
  unfold stepH hV
  simp only
  rw [if_pos h0, if_pos trivial]
  by_cases hr : r + 1 = 128
  · rw [if_pos hr]
    exact rested_well s g r w (by omega)
  · rw [if_neg hr]
    exact rested_more s g r w hr (by omega) (by omega)
theorem agg_eq {a b c d e f : Int} (h1 : a = d) (h2 : b = e) (h3 : c = f) : Value.agg #[.int .i64 a, .int .i64 b, .int .i64 c] = Value.agg #[.int .i64 d, .int .i64 e, .int .i64 f] := by subst h1 h2 h3; rfl
theorem counted_any (h : Hl) (what : Int) (w : World) (hC : ChgAt w) (ho : okH h) (h0 : h.s ≠ 256) (hw : isW what = true) :
    Calls Tryd.prog 17 #[hV h, .int .i64 what] w fun e w' => e = .returned (hV (stepH h what)) ∧ Below w.heap.size w w' := by
  obtain ⟨s, g, r⟩ := h
  unfold isW at hw
  have hw1 : 1 ≤ what ∧ what ≤ 6 := by simpa using hw
  unfold okH at ho
  simp only at ho h0
  obtain ⟨o1, o2, o3, o4, o5, o6, o7⟩ := ho
  have o8 : s ≤ 255 := by omega
  unfold stepH hV
  simp only
  rw [if_neg h0]
  rcases (by omega : what = 1 ∨ what = 2 ∨ what = 3 ∨ what = 4 ∨ what = 5 ∨ what = 6) with h | h | h | h | h | h
  · subst h
    rw [if_pos rfl]
    by_cases hs : 0 < s
    · rw [if_pos hs]
      exact cnt_1a s g r w hC o1 o8 o3 o4 hs
    · rw [if_neg hs]
      refine (cnt_1b s g r w hC o1 o8 o3 o4 (by omega)).mono ?_
      rintro e w1 ⟨rfl, hb⟩
      exact ⟨by rw [agg_eq (show (0 : Int) = s by omega) rfl rfl], hb⟩
  · subst h
    rw [if_neg (by decide), if_pos rfl]
    by_cases hg : 127 < g
    · rw [if_pos hg]
      exact cnt_2a s g r w hC o1 o8 hg
    · rw [if_neg hg]
      by_cases hg2 : 0 < g
      · rw [if_pos hg2]
        exact cnt_2b s g r w hC o1 o8 o3 o4 (by omega) hg2
      · rw [if_neg hg2]
        refine (cnt_2c s g r w hC o1 o8 o3 o4 (by omega)).mono ?_
        rintro e w1 ⟨rfl, hb⟩
        exact ⟨by rw [agg_eq rfl (show (0 : Int) = g by omega) rfl], hb⟩
  · subst h
    rw [if_neg (by decide), if_neg (by decide), if_pos rfl]
    by_cases hs : 256 < s + 8
    · rw [if_pos hs]
      exact cnt_3b s g r w hC o1 o8 o3 o4 (by omega)
    · rw [if_neg hs]
      exact cnt_3a s g r w hC o1 o8 o3 o4 (by omega)
  · subst h
    rw [if_neg (by decide), if_neg (by decide), if_neg (by decide), if_pos rfl]
    by_cases hg : g < 255
    · rw [if_pos hg]
      exact cnt_4a s g r w hC o1 o8 o3 o4 hg
    · rw [if_neg hg]
      refine (cnt_4b s g r w hC o1 o8 o3 o4 (by omega)).mono ?_
      rintro e w1 ⟨rfl, hb⟩
      exact ⟨by rw [agg_eq rfl (show (255 : Int) = g by omega) rfl], hb⟩
  · subst h
    rw [if_neg (by decide), if_neg (by decide), if_neg (by decide), if_neg (by decide), if_pos rfl]
    by_cases hg : 255 < g + 8
    · rw [if_pos hg]
      exact cnt_5b s g r w hC o1 o8 o3 o4 (by omega)
    · rw [if_neg hg]
      exact cnt_5a s g r w hC o1 o8 o3 o4 (by omega)
  · subst h
    rw [if_neg (by decide), if_neg (by decide), if_neg (by decide), if_neg (by decide), if_neg (by decide)]
    exact cnt_6 s g r w hC o1 o8 o3 o4
end Bw
end Go.Proofs.YtemjjkjceeljbaaDoor
