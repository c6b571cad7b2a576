/- What the document's LetsIn answers. -/
import Derived.Test.YtfmjhgggoklaoaaDoorFilCount
namespace Go.Proofs.YtfmjhgggoklaoaaDoor
open Go.ChangeShapes Go.WideShapes Go.ChangeAt Go.RowKit
namespace Bw
set_option maxHeartbeats 2000000 in
theorem letsIn_any (x : Fn) (id : Nat) (lo fa re : Bool) (sz : Int) (a : Option Addr) (len cap : Nat) (w : World) (hx : okN x) (hid : id ≤ 536870911) :
    Calls Tryd.prog 14 #[x.f.val, .agg #[.int .i64 id, .bool lo, .bool fa, .bool re, .int .i64 sz, .slice a len cap]] w fun e w' => e = .returned (.bool (hitN x lo id)) ∧ Below w.heap.size w w' := by
  obtain ⟨x1, x2⟩ := ok_lt hx
  have e1 := and_i64 x.w x.m (by omega) (by omega)
  have e2 := and_i64 id x.m (by omega) (by omega)
  have HB : Hid (Below w.heap.size w ((box1 w x.f).alloc (.cells #[.int .i64 id, .bool lo, .bool fa, .bool re, .int .i64 sz, .slice a len cap] 25))) := Hid.mk ((box1_below w x.f).alloc (box1_below w x.f).size _)
  clear hx x1 x2
  unfold box1 at HB
  unfold hitN
  unfold Fn.f Fl.val at *
  obtain ⟨xw, xm, xl⟩ := x
  simp only at HB e1 e2 ⊢
  by_cases hl : xl = lo
  · subst hl
    by_cases h2 : xw &&& xm = id &&& xm
    · have b2 : (bits .and .i64 (xw : Int) (xm : Int) == bits .and .i64 (id : Int) (xm : Int)) = true := by rw [e1, e2, h2]; simp
      have hr : ((xl == xl) && (xw &&& xm == id &&& xm)) = true := by simp [h2]
      rw [hr]
      clear e1 e2 h2 hr
      go_enter Tryd.func14, Tryd.ntmps14
      go_wp2_with fail
      go_ret
      exact ⟨rfl, HB.out⟩
    · have b2 : (bits .and .i64 (xw : Int) (xm : Int) == bits .and .i64 (id : Int) (xm : Int)) = false := by rw [e1, e2, beq_eq_false_iff_ne]; omega
      have hr : ((xl == xl) && (xw &&& xm == id &&& xm)) = false := by simp [h2]
      rw [hr]
      clear e1 e2 h2 hr
      go_enter Tryd.func14, Tryd.ntmps14
      go_wp2_with fail
      go_ret
      exact ⟨rfl, HB.out⟩
  · have hb : (xl == lo) = false := by simpa using hl
    rw [hb]
    simp only [Bool.false_and]
    clear e1 e2 hl
    go_enter Tryd.func14, Tryd.ntmps14
    go_wp2_with fail
    go_ret
    exact ⟨rfl, HB.out⟩
end Bw
end Go.Proofs.YtfmjhgggoklaoaaDoor
