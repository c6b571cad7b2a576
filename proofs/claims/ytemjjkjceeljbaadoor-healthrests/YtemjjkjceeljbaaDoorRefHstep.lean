/- What the document's own StepHealth answers. -/
import Derived.Test.YtemjjkjceeljbaaDoorRefHealth
namespace Go.Proofs.YtemjjkjceeljbaaDoor
open Go.ChangeShapes Go.WideShapes Go.ChangeAt Go.RowKit
namespace Bw
theorem health_i : (Tryd.prog.info? 23).map (·.size) = some 3 := by kernel_rfl
theorem stepR (tmps : Array Value) (w : World) (g : Nat) (cs : Array Value) (x : Value) (hp : tmps.getD 4 undef = .pointer (some ⟨g, 0, none⟩)) (hx : tmps.getD 5 undef = x) (h : w.heap[g]? = some (.cells cs 23 (0, 0))) (hs : cs.size = 3) :
    (results Tryd.f12 tmps).run Tryd.prog w = .ok (.tuple #[.agg cs, x]) w := by
  have hl := run_loadVar_row (P := Tryd.prog) w g 23 23 cs (0, 0) _ h Tryd.underlying23 rfl (by rw [health_i, hs])
  have hp' : tmps[4]?.getD undef = .pointer (some ⟨g, 0, none⟩) := by simpa using hp
  have hx' : tmps[5]?.getD undef = x := by simpa using hx
  simp [results, hp', hx', asAddr, hl]
theorem new2 (w : World) (o p : Obj) : ((w.alloc o).alloc p).heap[w.heap.size + 1]? = some p := by
  have h := heap_alloc_new (w.alloc o) p
  have e : (w.alloc o).heap.size = w.heap.size + 1 := by simp
  rw [e] at h; exact h
theorem below2 (w : World) (o p : Obj) : Below w.heap.size w ((w.alloc o).alloc p) := bl2 ((Below.refl _ _).alloc (Nat.le_refl _) _) ((Below.refl _ _).alloc (Nat.le_refl _) _)
set_option maxHeartbeats 2000000 in
set_option maxRecDepth 100000 in
theorem sh_low (s g r what : Int) (w : World) (hw : what < 1) :
    Calls Tryd.prog 12 #[.agg #[.int .i64 s, .int .i64 g, .int .i64 r], .int .i64 what] w fun e w' => e = .returned (.tuple #[.agg #[.int .i64 0, .int .i64 0, .int .i64 0], .bool false]) ∧ Below w.heap.size w w' := by
  go_enter Tryd.func12, Tryd.ntmps12
  go_wp2_with fail
  refine bodyPost_ret (stepR _ _ (w.heap.size + 1) _ _ rfl rfl (new2 w _ _) rfl) rfl ?_
  exact ⟨rfl, below2 w _ _⟩
set_option maxHeartbeats 2000000 in
set_option maxRecDepth 100000 in
theorem sh_high (s g r what : Int) (w : World) (hw : 6 < what) :
    Calls Tryd.prog 12 #[.agg #[.int .i64 s, .int .i64 g, .int .i64 r], .int .i64 what] w fun e w' => e = .returned (.tuple #[.agg #[.int .i64 0, .int .i64 0, .int .i64 0], .bool false]) ∧ Below w.heap.size w w' := by
  have hw2 : 1 ≤ what := by omega
  go_enter Tryd.func12, Tryd.ntmps12
  go_wp2_with fail
  refine bodyPost_ret (stepR _ _ (w.heap.size + 1) _ _ rfl rfl (new2 w _ _) rfl) rfl ?_
  exact ⟨rfl, below2 w _ _⟩
set_option maxHeartbeats 2000000 in
set_option maxRecDepth 100000 in
theorem sh_off (s g r what : Int) (w : World) (h0 : s = 256) (h1 : 1 ≤ what) (h6 : what ≤ 5) (hr : r ≠ 128) :
    Calls Tryd.prog 12 #[.agg #[.int .i64 s, .int .i64 g, .int .i64 r], .int .i64 what] w fun e w' => e = .returned (.tuple #[.agg #[.int .i64 s, .int .i64 g, .int .i64 r], .bool true]) ∧ Below w.heap.size w w' := by
  have b0 : (s == 256) = true := by simpa using h0
  clear h0
  have b1 : (what == 6) = false := by rw [beq_eq_false_iff_ne]; omega
  have b2 : (r == 128) = false := by simpa using hr
  clear hr
  go_enter Tryd.func12, Tryd.ntmps12
  go_wp2_with fail
  refine bodyPost_ret (stepR _ _ (w.heap.size + 1) _ _ rfl rfl (new2 w _ _) rfl) rfl ?_
  exact ⟨rfl, below2 w _ _⟩
set_option maxHeartbeats 2000000 in
set_option maxRecDepth 100000 in
theorem sh_rest (s g r what : Int) (w : World) (h0 : s = 256) (hw : what = 6) (hr : r + 1 ≠ 128) (hr0 : 0 ≤ r) (hr1 : r ≤ 127) :
    Calls Tryd.prog 12 #[.agg #[.int .i64 s, .int .i64 g, .int .i64 r], .int .i64 what] w fun e w' => e = .returned (.tuple #[.agg #[.int .i64 s, .int .i64 g, .int .i64 (r + 1)], .bool true]) ∧ Below w.heap.size w w' := by
  have b0 : (s == 256) = true := by simpa using h0
  clear h0
  subst hw
  have b2 : (r + 1 == 128) = false := by simpa using hr
  clear hr
  go_enter Tryd.func12, Tryd.ntmps12
  go_wp2_with fail
  refine bodyPost_ret (stepR _ _ (w.heap.size + 1) _ _ rfl rfl (new2 w _ _) rfl) rfl ?_
  exact ⟨rfl, below2 w _ _⟩
set_option maxHeartbeats 2000000 in
set_option maxRecDepth 100000 in
theorem sh_well (s g r what : Int) (w : World) (h0 : s = 256) (hw : what = 6) (hr : r = 127) :
    Calls Tryd.prog 12 #[.agg #[.int .i64 s, .int .i64 g, .int .i64 r], .int .i64 what] w fun e w' => e = .returned (.tuple #[.agg #[.int .i64 0, .int .i64 0, .int .i64 0], .bool true]) ∧ Below w.heap.size w w' := by
  have b0 : (s == 256) = true := by simpa using h0
  clear h0
  subst hw
  subst hr
  go_enter Tryd.func12, Tryd.ntmps12
  go_wp2_with fail
  refine bodyPost_ret (stepR _ _ (w.heap.size + 1) _ _ rfl rfl (new2 w _ _) rfl) rfl ?_
  exact ⟨rfl, below2 w _ _⟩
set_option maxHeartbeats 2000000 in
set_option maxRecDepth 100000 in
theorem sh_1a (s g r what : Int) (w : World) (h0 : s ≠ 256) (hw : what = 1) (hs : 0 < s) (hs2 : s ≤ 256) :
    Calls Tryd.prog 12 #[.agg #[.int .i64 s, .int .i64 g, .int .i64 r], .int .i64 what] w fun e w' => e = .returned (.tuple #[.agg #[.int .i64 (s - 1), .int .i64 g, .int .i64 r], .bool true]) ∧ Below w.heap.size w w' := by
  have b0 : (s == 256) = false := by simpa using h0
  clear h0
  subst hw
  go_enter Tryd.func12, Tryd.ntmps12
  go_wp2_with fail
  refine bodyPost_ret (stepR _ _ (w.heap.size + 1) _ _ rfl rfl (new2 w _ _) rfl) rfl ?_
  exact ⟨rfl, below2 w _ _⟩
set_option maxHeartbeats 2000000 in
set_option maxRecDepth 100000 in
theorem sh_1b (s g r what : Int) (w : World) (h0 : s ≠ 256) (hw : what = 1) (hs : s ≤ 0) :
    Calls Tryd.prog 12 #[.agg #[.int .i64 s, .int .i64 g, .int .i64 r], .int .i64 what] w fun e w' => e = .returned (.tuple #[.agg #[.int .i64 s, .int .i64 g, .int .i64 r], .bool true]) ∧ Below w.heap.size w w' := by
  have b0 : (s == 256) = false := by simpa using h0
  clear h0
  subst hw
  go_enter Tryd.func12, Tryd.ntmps12
  go_wp2_with fail
  refine bodyPost_ret (stepR _ _ (w.heap.size + 1) _ _ rfl rfl (new2 w _ _) rfl) rfl ?_
  exact ⟨rfl, below2 w _ _⟩
set_option maxHeartbeats 2000000 in
set_option maxRecDepth 100000 in
theorem sh_2a (s g r what : Int) (w : World) (h0 : s ≠ 256) (hw : what = 2) (hg : 127 < g) :
    Calls Tryd.prog 12 #[.agg #[.int .i64 s, .int .i64 g, .int .i64 r], .int .i64 what] w fun e w' => e = .returned (.tuple #[.agg #[.int .i64 s, .int .i64 (126), .int .i64 r], .bool true]) ∧ Below w.heap.size w w' := by
  have b0 : (s == 256) = false := by simpa using h0
  clear h0
  subst hw
  go_enter Tryd.func12, Tryd.ntmps12
  go_wp2_with fail
  refine bodyPost_ret (stepR _ _ (w.heap.size + 1) _ _ rfl rfl (new2 w _ _) rfl) rfl ?_
  exact ⟨rfl, below2 w _ _⟩
set_option maxHeartbeats 2000000 in
set_option maxRecDepth 100000 in
theorem sh_2b (s g r what : Int) (w : World) (h0 : s ≠ 256) (hw : what = 2) (hg : 0 < g) (hg2 : g ≤ 127) :
    Calls Tryd.prog 12 #[.agg #[.int .i64 s, .int .i64 g, .int .i64 r], .int .i64 what] w fun e w' => e = .returned (.tuple #[.agg #[.int .i64 s, .int .i64 (g - 1), .int .i64 r], .bool true]) ∧ Below w.heap.size w w' := by
  have b0 : (s == 256) = false := by simpa using h0
  clear h0
  subst hw
  go_enter Tryd.func12, Tryd.ntmps12
  go_wp2_with fail
  refine bodyPost_ret (stepR _ _ (w.heap.size + 1) _ _ rfl rfl (new2 w _ _) rfl) rfl ?_
  exact ⟨rfl, below2 w _ _⟩
set_option maxHeartbeats 2000000 in
set_option maxRecDepth 100000 in
theorem sh_2c (s g r what : Int) (w : World) (h0 : s ≠ 256) (hw : what = 2) (hg : g ≤ 0) :
    Calls Tryd.prog 12 #[.agg #[.int .i64 s, .int .i64 g, .int .i64 r], .int .i64 what] w fun e w' => e = .returned (.tuple #[.agg #[.int .i64 s, .int .i64 g, .int .i64 r], .bool true]) ∧ Below w.heap.size w w' := by
  have b0 : (s == 256) = false := by simpa using h0
  clear h0
  subst hw
  go_enter Tryd.func12, Tryd.ntmps12
  go_wp2_with fail
  refine bodyPost_ret (stepR _ _ (w.heap.size + 1) _ _ rfl rfl (new2 w _ _) rfl) rfl ?_
  exact ⟨rfl, below2 w _ _⟩
set_option maxHeartbeats 2000000 in
set_option maxRecDepth 100000 in
theorem sh_3a (s g r what : Int) (w : World) (h0 : s ≠ 256) (hw : what = 3) (hs : s ≤ 248) (hs2 : 0 ≤ s) :
    Calls Tryd.prog 12 #[.agg #[.int .i64 s, .int .i64 g, .int .i64 r], .int .i64 what] w fun e w' => e = .returned (.tuple #[.agg #[.int .i64 (s + 8), .int .i64 g, .int .i64 r], .bool true]) ∧ Below w.heap.size w w' := by
  have b0 : (s == 256) = false := by simpa using h0
  clear h0
  subst hw
  go_enter Tryd.func12, Tryd.ntmps12
  go_wp2_with fail
  refine bodyPost_ret (stepR _ _ (w.heap.size + 1) _ _ rfl rfl (new2 w _ _) rfl) rfl ?_
  exact ⟨rfl, below2 w _ _⟩
set_option maxHeartbeats 2000000 in
set_option maxRecDepth 100000 in
theorem sh_3b (s g r what : Int) (w : World) (h0 : s ≠ 256) (hw : what = 3) (hs : 248 < s) (hs2 : s ≤ 256) :
    Calls Tryd.prog 12 #[.agg #[.int .i64 s, .int .i64 g, .int .i64 r], .int .i64 what] w fun e w' => e = .returned (.tuple #[.agg #[.int .i64 (256), .int .i64 g, .int .i64 r], .bool true]) ∧ Below w.heap.size w w' := by
  have b0 : (s == 256) = false := by simpa using h0
  clear h0
  subst hw
  go_enter Tryd.func12, Tryd.ntmps12
  go_wp2_with fail
  refine bodyPost_ret (stepR _ _ (w.heap.size + 1) _ _ rfl rfl (new2 w _ _) rfl) rfl ?_
  exact ⟨rfl, below2 w _ _⟩
set_option maxHeartbeats 2000000 in
set_option maxRecDepth 100000 in
theorem sh_4a (s g r what : Int) (w : World) (h0 : s ≠ 256) (hw : what = 4) (hg : g < 255) (hg2 : 0 ≤ g) :
    Calls Tryd.prog 12 #[.agg #[.int .i64 s, .int .i64 g, .int .i64 r], .int .i64 what] w fun e w' => e = .returned (.tuple #[.agg #[.int .i64 s, .int .i64 (g + 1), .int .i64 r], .bool true]) ∧ Below w.heap.size w w' := by
  have b0 : (s == 256) = false := by simpa using h0
  clear h0
  subst hw
  go_enter Tryd.func12, Tryd.ntmps12
  go_wp2_with fail
  refine bodyPost_ret (stepR _ _ (w.heap.size + 1) _ _ rfl rfl (new2 w _ _) rfl) rfl ?_
  exact ⟨rfl, below2 w _ _⟩
set_option maxHeartbeats 2000000 in
set_option maxRecDepth 100000 in
theorem sh_4b (s g r what : Int) (w : World) (h0 : s ≠ 256) (hw : what = 4) (hg : 255 ≤ g) :
    Calls Tryd.prog 12 #[.agg #[.int .i64 s, .int .i64 g, .int .i64 r], .int .i64 what] w fun e w' => e = .returned (.tuple #[.agg #[.int .i64 s, .int .i64 g, .int .i64 r], .bool true]) ∧ Below w.heap.size w w' := by
  have b0 : (s == 256) = false := by simpa using h0
  clear h0
  subst hw
  go_enter Tryd.func12, Tryd.ntmps12
  go_wp2_with fail
  refine bodyPost_ret (stepR _ _ (w.heap.size + 1) _ _ rfl rfl (new2 w _ _) rfl) rfl ?_
  exact ⟨rfl, below2 w _ _⟩
set_option maxHeartbeats 2000000 in
set_option maxRecDepth 100000 in
theorem sh_5a (s g r what : Int) (w : World) (h0 : s ≠ 256) (hw : what = 5) (hg : g ≤ 247) (hg2 : 0 ≤ g) :
    Calls Tryd.prog 12 #[.agg #[.int .i64 s, .int .i64 g, .int .i64 r], .int .i64 what] w fun e w' => e = .returned (.tuple #[.agg #[.int .i64 s, .int .i64 (g + 8), .int .i64 r], .bool true]) ∧ Below w.heap.size w w' := by
  have b0 : (s == 256) = false := by simpa using h0
  clear h0
  subst hw
  go_enter Tryd.func12, Tryd.ntmps12
  go_wp2_with fail
  refine bodyPost_ret (stepR _ _ (w.heap.size + 1) _ _ rfl rfl (new2 w _ _) rfl) rfl ?_
  exact ⟨rfl, below2 w _ _⟩
set_option maxHeartbeats 2000000 in
set_option maxRecDepth 100000 in
theorem sh_5b (s g r what : Int) (w : World) (h0 : s ≠ 256) (hw : what = 5) (hg : 247 < g) (hg2 : g ≤ 255) :
    Calls Tryd.prog 12 #[.agg #[.int .i64 s, .int .i64 g, .int .i64 r], .int .i64 what] w fun e w' => e = .returned (.tuple #[.agg #[.int .i64 s, .int .i64 (255), .int .i64 r], .bool true]) ∧ Below w.heap.size w w' := by
  have b0 : (s == 256) = false := by simpa using h0
  clear h0
  subst hw
  go_enter Tryd.func12, Tryd.ntmps12
  go_wp2_with fail
  refine bodyPost_ret (stepR _ _ (w.heap.size + 1) _ _ rfl rfl (new2 w _ _) rfl) rfl ?_
  exact ⟨rfl, below2 w _ _⟩
set_option maxHeartbeats 2000000 in
set_option maxRecDepth 100000 in
theorem sh_6 (s g r what : Int) (w : World) (h0 : s ≠ 256) (hw : what = 6) :
    Calls Tryd.prog 12 #[.agg #[.int .i64 s, .int .i64 g, .int .i64 r], .int .i64 what] w fun e w' => e = .returned (.tuple #[.agg #[.int .i64 s, .int .i64 g, .int .i64 r], .bool true]) ∧ Below w.heap.size w w' := by
  have b0 : (s == 256) = false := by simpa using h0
  clear h0
  subst hw
  go_enter Tryd.func12, Tryd.ntmps12
  go_wp2_with fail
  refine bodyPost_ret (stepR _ _ (w.heap.size + 1) _ _ rfl rfl (new2 w _ _) rfl) rfl ?_
  exact ⟨rfl, below2 w _ _⟩
theorem stepHealth_none (h : Hl) (what : Int) (w : World) (hw : isW what = false) :
    Calls Tryd.prog 12 #[hV h, .int .i64 what] w fun e w' => e = .returned (.tuple #[hV zeroH, .bool false]) ∧ Below w.heap.size w w' := by
  obtain ⟨s, g, r⟩ := h
  unfold isW at hw
  by_cases h1 : what < 1
  · exact sh_low s g r what w h1
  · exact sh_high s g r what w (by
      rcases Int.lt_or_le 6 what with x | x
      · exact x
      · exfalso
        have : (decide (1 ≤ what) && decide (what ≤ 6)) = true := by simp; omega
        rw [this] at hw; cases hw)
theorem stepHealth_any (h : Hl) (what : Int) (w : World) (ho : okH h) (hw : isW what = true) :
    Calls Tryd.prog 12 #[hV h, .int .i64 what] w fun e w' => e = .returned (.tuple #[hV (stepH h what), .bool true]) ∧ Below w.heap.size w w' := by
  obtain ⟨s, g, r⟩ := h
  unfold isW at hw
  have hw1 : 1 ≤ what ∧ what ≤ 6 := by simpa using hw
  unfold okH at ho
  simp only at ho
  obtain ⟨o1, o2, o3, o4, o5, o6, o7⟩ := ho
  unfold stepH hV
  simp only
  by_cases h0 : s = 256
  · rw [if_pos h0]
    by_cases h6 : what = 6
    · rw [if_pos h6]
      by_cases hr : r + 1 = 128
      · rw [if_pos hr]
        exact sh_well s g r what w h0 h6 (by omega)
      · rw [if_neg hr]
        exact sh_rest s g r what w h0 h6 hr o5 o6
    · rw [if_neg h6]
      exact sh_off s g r what w h0 hw1.1 (by omega) (by omega)
  · rw [if_neg h0]
    rcases (by omega : what = 1 ∨ what = 2 ∨ what = 3 ∨ what = 4 ∨ what = 5 ∨ what = 6) with h | h | h | h | h | h
    · rw [if_pos h]
      by_cases hs : 0 < s
      · rw [if_pos hs]; exact sh_1a s g r what w h0 h hs o2
      · rw [if_neg hs]; exact sh_1b s g r what w h0 h (by omega)
    · rw [if_neg (by omega), if_pos h]
      by_cases hg : 127 < g
      · rw [if_pos hg]; exact sh_2a s g r what w h0 h hg
      · rw [if_neg hg]
        by_cases hg2 : 0 < g
        · rw [if_pos hg2]; exact sh_2b s g r what w h0 h hg2 (by omega)
        · rw [if_neg hg2]; exact sh_2c s g r what w h0 h (by omega)
    · rw [if_neg (by omega), if_neg (by omega), if_pos h]
      by_cases hs : 256 < s + 8
      · rw [if_pos hs]; exact sh_3b s g r what w h0 h (by omega) o2
      · rw [if_neg hs]; exact sh_3a s g r what w h0 h (by omega) o1
    · rw [if_neg (by omega), if_neg (by omega), if_neg (by omega), if_pos h]
      by_cases hg : g < 255
      · rw [if_pos hg]; exact sh_4a s g r what w h0 h hg o3
      · rw [if_neg hg]; exact sh_4b s g r what w h0 h (by omega)
    · rw [if_neg (by omega), if_neg (by omega), if_neg (by omega), if_neg (by omega), if_pos h]
      by_cases hg : 255 < g + 8
      · rw [if_pos hg]; exact sh_5b s g r what w h0 h (by omega) o4
      · rw [if_neg hg]; exact sh_5a s g r what w h0 h (by omega) o3
    · rw [if_neg (by omega), if_neg (by omega), if_neg (by omega), if_neg (by omega), if_neg (by omega)]
      exact sh_6 s g r what w h0 h
end Bw
end Go.Proofs.YtemjjkjceeljbaaDoor
