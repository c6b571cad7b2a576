/- What package filter's last, meet, holds, shared, size, isWrong and greatest answer, and the library's count of bits. -/
import Derived.Test.YtfmjhgggoklaoaaDoorBase0
import Derived.Test.YtfmjhgggoklaoaaDoorFilLeast
import Derived.Test.YtfmjhgggoklaoaaDoorFilOnes
namespace Go.Proofs.YtfmjhgggoklaoaaDoor
open Go.ChangeShapes Go.WideShapes Go.ChangeAt Go.RowKit
namespace Bw
/-- a filter as it came in -/
structure Fl where
  w : Int
  m : Int
  lo : Bool
def Fl.cells (x : Fl) : List Value := [.int .i64 x.w, .int .i64 x.m, .bool x.lo]
def Fl.val (x : Fl) : Value := .agg #[.int .i64 x.w, .int .i64 x.m, .bool x.lo]
def Fn.f (x : Fn) : Fl := ⟨x.w, x.m, x.lo⟩
/-- the program's own table -/
def LastsAt (w : World) : Prop := w.cell? ⟨0, 0, none⟩ = some (.int .i64 2047) ∧ w.cell? ⟨0, 1, none⟩ = some (.int .i64 536870911)
theorem LastsAt.kept {w w' : World} (h : LastsAt w) (hb : Below w.heap.size w w') : LastsAt w' := ⟨cell_kept hb h.1, cell_kept hb h.2⟩
set_option maxHeartbeats 1000000 in
theorem last_any (lo : Bool) (w : World) (hL : LastsAt w) :
    Calls Tryd.prog 25 #[.bool lo] w fun e w' => e = .returned (.int .i64 (topN lo)) ∧ w' = w := by
  obtain ⟨h0, h1⟩ := hL
  cases lo
  · go_enter Tryd.func25, Tryd.ntmps25
    go_wp2_with fail
    go_ret
    exact ⟨rfl, rfl⟩
  · go_enter Tryd.func25, Tryd.ntmps25
    go_wp2_with fail
    go_ret
    exact ⟨rfl, rfl⟩
theorem ok_lt {x : Fn} (h : okN x) : x.w < 536870912 ∧ x.m < 536870912 := by
  have := topN_le x.lo
  have h1 := h.w
  have h2 := h.m
  omega
set_option maxHeartbeats 1000000 in
theorem meet_any (x y : Fn) (w : World) (hx : okN x) (hy : okN y) :
    Calls Tryd.prog 34 #[x.f.val, y.f.val] w fun e w' => e = .returned (.bool (meetN x y)) ∧ Below w.heap.size w w' := by
  obtain ⟨x1, x2⟩ := ok_lt hx
  obtain ⟨y1, y2⟩ := ok_lt hy
  obtain ⟨xw, xm, xl⟩ := x
  obtain ⟨yw, ym, yl⟩ := y
  simp only at x1 x2 y1 y2
  have e1 := xorN_i64 xw yw (by omega) (by omega)
  have l1 : xw ^^^ yw < 2 ^ 29 := Nat.xor_lt_two_pow (by omega) (by omega)
  have e2 := and_i64 (xw ^^^ yw) xm (by omega) (by omega)
  have l2 : (xw ^^^ yw) &&& xm < 2 ^ 29 := Nat.lt_of_le_of_lt Nat.and_le_left l1
  have e3 := and_i64 ((xw ^^^ yw) &&& xm) ym (by omega) (by omega)
  have key : bits .and .i64 (bits .and .i64 (bits .xor .i64 (xw : Int) (yw : Int)) (xm : Int)) (ym : Int) = (((xw ^^^ yw) &&& xm &&& ym : Nat) : Int) := by rw [e1, e2, e3]
  have hB : Below w.heap.size w ((w.alloc (.cells #[.int .i64 xw, .int .i64 xm, .bool xl] 34)).alloc (.cells #[.int .i64 yw, .int .i64 ym, .bool yl] 34)) := ((Below.refl _ _).alloc (Nat.le_refl _) _).alloc (by simp) _
  have HB := Hid.mk hB
  unfold Fn.f Fl.val meetN
  simp only
  clear e1 e2 e3 l1 l2 hx hy hB x1 x2 y1 y2
  by_cases hl : xl = yl
  · subst hl
    by_cases hz : (xw ^^^ yw) &&& xm &&& ym = 0
    · have hb : (bits .and .i64 (bits .and .i64 (bits .xor .i64 (xw : Int) (yw : Int)) (xm : Int)) (ym : Int) == 0) = true := by rw [key, hz]; rfl
      have hr : ((xl == xl) && ((xw ^^^ yw) &&& xm &&& ym == 0)) = true := by simp [hz]
      rw [hr]
      clear key hz hr
      go_enter Tryd.func34, Tryd.ntmps34
      go_wp2_with fail
      go_ret
      exact ⟨rfl, HB.out⟩
    · have hb : (bits .and .i64 (bits .and .i64 (bits .xor .i64 (xw : Int) (yw : Int)) (xm : Int)) (ym : Int) == 0) = false := by rw [key, beq_eq_false_iff_ne]; omega
      have hr : ((xl == xl) && ((xw ^^^ yw) &&& xm &&& ym == 0)) = false := by simp [hz]
      rw [hr]
      clear key hz hr
      go_enter Tryd.func34, Tryd.ntmps34
      go_wp2_with fail
      go_ret
      exact ⟨rfl, HB.out⟩
  · have hb : (xl == yl) = false := by simpa using hl
    rw [hb]
    simp only [Bool.false_and]
    clear key hl
    go_enter Tryd.func34, Tryd.ntmps34
    go_wp2_with fail
    go_ret
    exact ⟨rfl, HB.out⟩
end Bw
end Go.Proofs.YtfmjhgggoklaoaaDoor
