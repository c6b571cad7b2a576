/- What package filter's holds, shared, isWrong and greatest answer. -/
import Derived.Test.YtfmjhgggoklaoaaDoorFilSmall
namespace Go.Proofs.YtfmjhgggoklaoaaDoor
open Go.ChangeShapes Go.WideShapes Go.ChangeAt Go.RowKit
namespace Bw
/-- two filters in cells of their own -/
def box2 (w : World) (x y : Fl) : World := (w.alloc (.cells #[.int .i64 x.w, .int .i64 x.m, .bool x.lo] 34)).alloc (.cells #[.int .i64 y.w, .int .i64 y.m, .bool y.lo] 34)
theorem box2_below (w : World) (x y : Fl) : Below w.heap.size w (box2 w x y) := ((Below.refl _ _).alloc (Nat.le_refl _) _).alloc (by simp) _
theorem holds_eq (x y : Fn) : holdsN x y = ((andnotN x.m y.m == 0) && meetN x y) := by
  unfold holdsN meetN
  rw [Bool.eq_iff_iff]
  simp only [Bool.and_eq_true, beq_iff_eq]
  rw [andnot_zero]
  constructor
  · rintro ⟨h1, h2, h3⟩
    refine ⟨h2, h1, Nat.eq_of_testBit_eq fun i => ?_⟩
    have e3 := bit_of h3 i
    simp only [Nat.testBit_and, Nat.testBit_xor, Nat.zero_testBit] at e3 ⊢
    revert e3
    cases x.w.testBit i <;> cases x.m.testBit i <;> cases y.w.testBit i <;> cases y.m.testBit i <;> decide
  · rintro ⟨h2, h1, h3⟩
    refine ⟨h1, h2, Nat.eq_of_testBit_eq fun i => ?_⟩
    have e2 := bit_of h2 i
    have e3 := bit_of h3 i
    simp only [Nat.testBit_and, Nat.testBit_xor, Nat.zero_testBit] at e2 e3 ⊢
    revert e2 e3
    cases x.w.testBit i <;> cases x.m.testBit i <;> cases y.w.testBit i <;> cases y.m.testBit i <;> decide
set_option maxHeartbeats 1000000 in
theorem holds_any (x y : Fn) (w : World) (hx : okN x) (hy : okN y) :
    Calls Tryd.prog 26 #[x.f.val, y.f.val] w fun e w' => e = .returned (.bool (holdsN x y)) ∧ Below w.heap.size w w' := by
  obtain ⟨x1, x2⟩ := ok_lt hx
  obtain ⟨y1, y2⟩ := ok_lt hy
  have HM := Hid.mk (fun W => meet_any x y W hx hy)
  have HB := Hid.mk (box2_below w x.f y.f)
  have key := andnot_i64 x.m y.m (by omega) (by omega)
  rw [holds_eq]
  clear hx hy x1 x2 y1 y2
  unfold box2 at HB
  unfold Fn.f Fl.val at *
  simp only at HB HM ⊢
  by_cases hz : andnotN x.m y.m = 0
  · have hb : (bits .andNot .i64 (x.m : Int) (y.m : Int) == 0) = true := by rw [key, hz]; rfl
    have hr : (andnotN x.m y.m == 0) = true := by simp [hz]
    rw [hr]
    simp only [Bool.true_and]
    clear key hz hr
    go_enter Tryd.func26, Tryd.ntmps26
    go_wp2_with fail
    refine (HM.out _).mono ?_
    rintro e w1 ⟨rfl, hb1⟩
    have HB1 := Hid.mk (bl2 HB.out hb1)
    clear hb1
    go_wp2_with fail
    go_ret
    exact ⟨rfl, HB1.out⟩
  · have hb : (bits .andNot .i64 (x.m : Int) (y.m : Int) == 0) = false := by rw [key, beq_eq_false_iff_ne]; omega
    have hr : (andnotN x.m y.m == 0) = false := by simp [hz]
    rw [hr]
    simp only [Bool.false_and]
    clear key hz hr
    go_enter Tryd.func26, Tryd.ntmps26
    go_wp2_with fail
    go_ret
    exact ⟨rfl, HB.out⟩
theorem filter_i : (Tryd.prog.info? 34).map (·.size) = some 3 := by kernel_rfl
theorem resF (k : Nat) (fn : Func) (hf : fn.results = #[.cell k 34]) (tmps : Array Value) (w : World) (g : Nat) (cs : Array Value) (hp : tmps.getD k undef = .pointer (some ⟨g, 0, none⟩)) (h : w.heap[g]? = some (.cells cs 34 (0, 0))) (hs : cs.size = 3) :
    (results fn tmps).run Tryd.prog w = .ok (.agg cs) w := by
  have hl := run_loadVar_row (P := Tryd.prog) w g 34 34 cs (0, 0) _ h Tryd.underlying34 rfl (by rw [filter_i, hs])
  have hp' : tmps[k]?.getD undef = .pointer (some ⟨g, 0, none⟩) := by simpa using hp
  simp [results, hf, hp', asAddr, hl]
theorem new3 (w : World) (a b c : Obj) : (((w.alloc a).alloc b).alloc c).heap[w.heap.size + 2]? = some c := by
  have := heap_alloc_new ((w.alloc a).alloc b) c
  simpa using this
set_option maxHeartbeats 1000000 in
theorem shared_any (x y : Fn) (w : World) (hx : okN x) (hy : okN y) :
    Calls Tryd.prog 35 #[x.f.val, y.f.val] w fun e w' => e = .returned (sharedN x y).f.val ∧ Below w.heap.size w w' := by
  obtain ⟨x1, x2⟩ := ok_lt hx
  obtain ⟨y1, y2⟩ := ok_lt hy
  have e1 := and_i64 x.w x.m (by omega) (by omega)
  have e2 := and_i64 y.w y.m (by omega) (by omega)
  have e3 := or_i64 (x.w &&& x.m) (y.w &&& y.m) (Nat.lt_of_le_of_lt Nat.and_le_left (by omega)) (Nat.lt_of_le_of_lt Nat.and_le_left (by omega))
  have e4 := or_i64 x.m y.m (by omega) (by omega)
  have k1 : bits .or .i64 (bits .and .i64 (x.w : Int) (x.m : Int)) (bits .and .i64 (y.w : Int) (y.m : Int)) = ((x.w &&& x.m ||| y.w &&& y.m : Nat) : Int) := by rw [e1, e2, e3]
  have HK1 := Hid.mk k1
  have HK2 := Hid.mk e4
  have HB := Hid.mk (box2_below w x.f y.f)
  clear hx hy x1 x2 y1 y2 e1 e2 e3 e4 k1
  unfold box2 at HB
  unfold sharedN Fn.f Fl.val at *
  simp only at HB ⊢
  go_enter Tryd.func35, Tryd.ntmps35
  go_wp2_with fail
  refine bodyPost_ret (resF 4 _ rfl _ _ (w.heap.size + 2) _ rfl (new3 w _ _ _) rfl) rfl ?_
  rw [HK1.out, HK2.out]
  exact ⟨rfl, HB.out.alloc (by simp; omega) _⟩
end Bw
end Go.Proofs.YtfmjhgggoklaoaaDoor
