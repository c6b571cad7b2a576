/- filter.size, filter.isWrong, filter.greatest. -/
import Derived.Test.YtapjiopnjfldhaaDoorA2
import Derived.Test.YtapjiopnjfldhaaDoorA1
import Derived.Laws.Bits64b
namespace Go.Proofs.YtapjiopnjfldhaaDoor
namespace Bw
theorem and_byte (x m : Nat) : x &&& m = (x % 256 &&& m % 256) + 256 * (x / 256 &&& m / 256) := by
  have h1 : (x &&& m) / 256 = x / 256 &&& m / 256 := by have := Nat.and_div_two_pow (a := x) (b := m) (n := 8); simpa using this
  have h2 : (x &&& m) % 256 = x % 256 &&& m % 256 := by have := Nat.and_mod_two_pow (a := x) (b := m) (n := 8); simpa using this
  omega
/-- a byte so many times -/
def mskN (c : Nat) : Nat → Nat
  | 0 => 0
  | k + 1 => c + 256 * mskN c k
def st1 (m x : Nat) : Nat := (x / 2 &&& m) + (x &&& m)
def st2 (m x : Nat) : Nat := (x / 4 &&& m) + (x &&& m)
def st3 (m x : Nat) : Nat := (x / 16 + x) &&& m
/-- each byte's bits, as bytes -/
def perN : Nat → Nat → Nat
  | 0, _ => 0
  | k + 1, x => popN 8 (x % 256) + 256 * perN k (x / 256)
theorem msk_mod (c k : Nat) (h : c < 256) : mskN c (k + 1) % 256 = c ∧ mskN c (k + 1) / 256 = mskN c k := by rw [mskN]; omega
theorem byte1 : ∀ a, a < 256 → ∀ c, c < 2 → (a / 2 + 128 * c &&& 85) + (a &&& 85) = st1 85 a ∧ st1 85 a < 256 := by decide +kernel
theorem byte2 : ∀ a, a < 256 → ∀ c, c < 4 → (st1 85 a / 4 + 64 * c &&& 51) + (st1 85 a &&& 51) = st2 51 (st1 85 a) ∧ st2 51 (st1 85 a) < 256 := by decide +kernel
theorem byte3 : ∀ a, a < 256 → st2 51 (st1 85 a) % 16 ≤ 4 ∧ st2 51 (st1 85 a) / 16 ≤ 4 := by decide +kernel
theorem byte4 : ∀ a, a < 256 → ∀ c, c < 5 → (st2 51 (st1 85 a) / 16 + st2 51 (st1 85 a) + 16 * c &&& 15) = popN 8 a := by decide +kernel
theorem st1_byte (k x : Nat) : st1 (mskN 85 (k + 1)) x = st1 85 (x % 256) + 256 * st1 (mskN 85 k) (x / 256) := by
  obtain ⟨h1, h2⟩ := msk_mod 85 k (by omega)
  have hb := (byte1 (x % 256) (by omega) (x / 256 % 2) (by omega)).1
  have e1 : x / 2 % 256 = x % 256 / 2 + 128 * (x / 256 % 2) := by omega
  have e2 : x / 2 / 256 = x / 256 / 2 := by omega
  rw [← hb]
  unfold st1
  rw [and_byte (x / 2), and_byte x, h1, h2, e1, e2]
  omega
theorem st2_byte (k x : Nat) : st2 (mskN 51 (k + 1)) (st1 (mskN 85 (k + 1)) x) = st2 51 (st1 85 (x % 256)) + 256 * st2 (mskN 51 k) (st1 (mskN 85 k) (x / 256)) := by
  obtain ⟨h1, h2⟩ := msk_mod 51 k (by omega)
  have hx := st1_byte k x
  have hl := (byte1 (x % 256) (by omega) 0 (by omega)).2
  generalize st1 (mskN 85 k) (x / 256) = B at *
  have hb := (byte2 (x % 256) (by omega) (B % 4) (by omega)).1
  rw [hx, ← hb]
  generalize st1 85 (x % 256) = A at *
  unfold st2
  rw [and_byte ((A + 256 * B) / 4), and_byte (A + 256 * B), h1, h2]
  have e1 : (A + 256 * B) / 4 % 256 = A / 4 + 64 * (B % 4) := by omega
  have e2 : (A + 256 * B) / 4 / 256 = B / 4 := by omega
  have e3 : (A + 256 * B) % 256 = A := by omega
  have e4 : (A + 256 * B) / 256 = B := by omega
  rw [e1, e2, e3, e4]
  omega
theorem st3_byte : ∀ (k x : Nat), x < 256 ^ k → st2 (mskN 51 k) (st1 (mskN 85 k) x) % 16 ≤ 4 ∧ st3 (mskN 15 k) (st2 (mskN 51 k) (st1 (mskN 85 k) x)) = perN k x
  | 0, x, h => by
    have h0 : x = 0 := by simpa using h
    subst h0
    decide
  | k + 1, x, h => by
    obtain ⟨ih1, ih2⟩ := st3_byte k (x / 256) (by rw [Nat.pow_succ] at h; omega)
    obtain ⟨h1, h2⟩ := msk_mod 15 k (by omega)
    have hx := st2_byte k x
    have hl := (byte2 (x % 256) (by omega) 0 (by omega)).2
    obtain ⟨hn1, hn2⟩ := byte3 (x % 256) (by omega)
    generalize st2 (mskN 51 k) (st1 (mskN 85 k) (x / 256)) = B at *
    have hb := byte4 (x % 256) (by omega) (B % 16) (by omega)
    rw [hx, perN, ← ih2, ← hb]
    generalize st2 51 (st1 85 (x % 256)) = A at *
    refine ⟨by omega, ?_⟩
    unfold st3
    have e1 : (A + 256 * B) / 16 + (A + 256 * B) = (A / 16 + A + 16 * (B % 16)) + 256 * (B / 16 + B) := by omega
    rw [e1, and_byte (A / 16 + A + 16 * (B % 16) + 256 * (B / 16 + B)), h1, h2]
    have e2 : (A / 16 + A + 16 * (B % 16) + 256 * (B / 16 + B)) % 256 = A / 16 + A + 16 * (B % 16) := by omega
    have e3 : (A / 16 + A + 16 * (B % 16) + 256 * (B / 16 + B)) / 256 = B / 16 + B := by omega
    rw [e2, e3]
theorem popN_byte (k x : Nat) : popN (k + 8) x = popN 8 (x % 256) + popN k (x / 256) := by
  simp only [popN, Nat.div_div_eq_div_mul]
  have e : x / (2 * 2 * 2 * 2 * 2 * 2 * 2 * 2) = x / 256 := by omega
  rw [e]
  omega
/-- what is left of it: the sums -/
def onesN (x : Nat) : Nat := st3 1085102592571150095 (st2 3689348814741910323 (st1 6148914691236517205 x))
theorem ones_bytes (x : Nat) (h : x < 2 ^ 32) : onesN x = popN 8 (x % 256) + 256 * (popN 8 (x / 256 % 256) + 256 * (popN 8 (x / 65536 % 256) + 256 * popN 8 (x / 16777216 % 256))) := by
  have h1 : mskN 85 8 = 6148914691236517205 := by decide
  have h2 : mskN 51 8 = 3689348814741910323 := by decide
  have h3 : mskN 15 8 = 1085102592571150095 := by decide
  have h4 := (st3_byte 8 x (by omega)).2
  unfold onesN
  rw [← h1, ← h2, ← h3, h4]
  have e0 : x / 256 / 256 / 256 / 256 = 0 := by omega
  have p0 : ∀ k, perN k 0 = 0 := by
    intro k
    induction k with
    | zero => rfl
    | succ k ih => rw [perN]; simp [ih, popN_zero]
  rw [perN, perN, perN, perN, e0, p0]
  have e1 : x / 256 / 256 = x / 65536 := by omega
  have e2 : x / 65536 / 256 = x / 16777216 := by omega
  rw [e1, e2, Nat.mul_zero, Nat.add_zero]
theorem ones_pop (x : Nat) (h : x < 2 ^ 32) : popN 32 x = popN 8 (x % 256) + popN 8 (x / 256 % 256) + popN 8 (x / 65536 % 256) + popN 8 (x / 16777216 % 256) := by
  rw [show 32 = 24 + 8 from rfl, popN_byte 24, show 24 = 16 + 8 from rfl, popN_byte 16, show 16 = 8 + 8 from rfl, popN_byte 8]
  have e1 : x / 256 / 256 = x / 65536 := by omega
  have e2 : x / 65536 / 256 = x / 16777216 := by omega
  have e3 : x / 16777216 % 256 = x / 16777216 := by omega
  rw [e1, e2, e3]
  omega
/-- the three sums -/
theorem ones_sums (x : Nat) (h : x < 2 ^ 32) : ∃ t, t = onesN x ∧ t ≤ 134744072 ∧ t + t / 256 ≤ 136000000 ∧ (t + t / 256 + (t + t / 256) / 65536) ≤ 137000000 ∧ ((t + t / 256 + (t + t / 256) / 65536) + (t + t / 256 + (t + t / 256) / 65536) / 4294967296) % 128 = popN 32 x := by
  refine ⟨_, rfl, ?_⟩
  rw [ones_bytes x h, ones_pop x h]
  have a1 := popN_le 8 (x % 256)
  have a2 := popN_le 8 (x / 256 % 256)
  have a3 := popN_le 8 (x / 65536 % 256)
  have a4 := popN_le 8 (x / 16777216 % 256)
  generalize popN 8 (x % 256) = p0 at *
  generalize popN 8 (x / 256 % 256) = p1 at *
  generalize popN 8 (x / 65536 % 256) = p2 at *
  generalize popN 8 (x / 16777216 % 256) = p3 at *
  have d1 : (p0 + 256 * (p1 + 256 * (p2 + 256 * p3))) / 256 = p1 + 256 * (p2 + 256 * p3) := by omega
  rw [d1]
  have d2 : (p0 + 256 * (p1 + 256 * (p2 + 256 * p3)) + (p1 + 256 * (p2 + 256 * p3))) / 65536 = p2 + p3 + 256 * p3 := by omega
  rw [d2]
  have d3 : (p0 + 256 * (p1 + 256 * (p2 + 256 * p3)) + (p1 + 256 * (p2 + 256 * p3)) + (p2 + p3 + 256 * p3)) / 4294967296 = 0 := by omega
  rw [d3]
  omega
end Bw
end Go.Proofs.YtapjiopnjfldhaaDoor
namespace Go.Proofs.YtapjiopnjfldhaaDoor
open Go.ChangeShapes Go.WideShapes Go.ChangeAt Go.RowKit
namespace Bw
/-- a filter as it came in -/
structure Fl where
  w : Int
  m : Int
  lo : Bool
def Fl.cells (x : Fl) : List Value := [.int .i64 x.w, .int .i64 x.m, .bool x.lo]
def Fl.val (x : Fl) : Value := .agg #[.int .i64 x.w, .int .i64 x.m, .bool x.lo]
def Fn.f (x : Fn) : Fl := ⟨x.w, x.m, x.lo⟩
/-- the program's own table -/
def LastsAt (w : World) : Prop := w.cell? ⟨1, 0, none⟩ = some (.int .i64 2047) ∧ w.cell? ⟨1, 1, none⟩ = some (.int .i64 536870911)
theorem LastsAt.kept {w w' : World} (h : LastsAt w) (hb : Below w.heap.size w w') : LastsAt w' := ⟨cell_kept hb h.1, cell_kept hb h.2⟩
set_option maxHeartbeats 1000000 in
theorem last_any (lo : Bool) (w : World) (hL : LastsAt w) :
    Calls Tryd.prog 79 #[.bool lo] w fun e w' => e = .returned (.int .i64 (topN lo)) ∧ w' = w := by
  obtain ⟨h0, h1⟩ := hL
  cases lo
  · go_enter Tryd.func79, Tryd.ntmps79
    go_wp2_with fail
    go_ret
    exact ⟨rfl, rfl⟩
  · go_enter Tryd.func79, Tryd.ntmps79
    go_wp2_with fail
    go_ret
    exact ⟨rfl, rfl⟩
theorem ok_lt {x : Fn} (h : okN x) : x.w < 536870912 ∧ x.m < 536870912 := by
  have := topN_le x.lo
  have h1 := h.w
  have h2 := h.m
  omega
set_option maxHeartbeats 1000000 in
theorem meet_any (x y : Fn) (w : World) (hx : okN x) (hy : okN y) :
    Calls Tryd.prog 90 #[x.f.val, y.f.val] w fun e w' => e = .returned (.bool (meetN x y)) ∧ Below w.heap.size w w' := by
  obtain ⟨x1, x2⟩ := ok_lt hx
  obtain ⟨y1, y2⟩ := ok_lt hy
  obtain ⟨xw, xm, xl⟩ := x
  obtain ⟨yw, ym, yl⟩ := y
  simp only at x1 x2 y1 y2
  have e1 := xorN_i64 xw yw (by omega) (by omega)
  have l1 : xw ^^^ yw < 2 ^ 29 := Nat.xor_lt_two_pow (by omega) (by omega)
  have e2 := and_i64 (xw ^^^ yw) xm (by omega) (by omega)
  have l2 : (xw ^^^ yw) &&& xm < 2 ^ 29 := Nat.lt_of_le_of_lt Nat.and_le_left l1
  have e3 := and_i64 ((xw ^^^ yw) &&& xm) ym (by omega) (by omega)
  have key : bits .and .i64 (bits .and .i64 (bits .xor .i64 (xw : Int) (yw : Int)) (xm : Int)) (ym : Int) = (((xw ^^^ yw) &&& xm &&& ym : Nat) : Int) := by rw [e1, e2, e3]
  have hB : Below w.heap.size w ((w.alloc (.cells #[.int .i64 xw, .int .i64 xm, .bool xl] 43)).alloc (.cells #[.int .i64 yw, .int .i64 ym, .bool yl] 43)) := ((Below.refl _ _).alloc (Nat.le_refl _) _).alloc (by simp) _
  have HB := Hid.mk hB
  unfold Fn.f Fl.val meetN
  simp only
  clear e1 e2 e3 l1 l2 hx hy hB x1 x2 y1 y2
  by_cases hl : xl = yl
  · subst hl
    by_cases hz : (xw ^^^ yw) &&& xm &&& ym = 0
    · have hb : (bits .and .i64 (bits .and .i64 (bits .xor .i64 (xw : Int) (yw : Int)) (xm : Int)) (ym : Int) == 0) = true := by rw [key, hz]; rfl
      have hr : ((xl == xl) && ((xw ^^^ yw) &&& xm &&& ym == 0)) = true := by simp [hz]
      rw [hr]
      clear key hz hr
      go_enter Tryd.func90, Tryd.ntmps90
      go_wp2_with fail
      go_ret
      exact ⟨rfl, HB.out⟩
    · have hb : (bits .and .i64 (bits .and .i64 (bits .xor .i64 (xw : Int) (yw : Int)) (xm : Int)) (ym : Int) == 0) = false := by rw [key, beq_eq_false_iff_ne]; omega
      have hr : ((xl == xl) && ((xw ^^^ yw) &&& xm &&& ym == 0)) = false := by simp [hz]
      rw [hr]
      clear key hz hr
      go_enter Tryd.func90, Tryd.ntmps90
      go_wp2_with fail
      go_ret
      exact ⟨rfl, HB.out⟩
  · have hb : (xl == yl) = false := by simpa using hl
    rw [hb]
    simp only [Bool.false_and]
    clear key hl
    go_enter Tryd.func90, Tryd.ntmps90
    go_wp2_with fail
    go_ret
    exact ⟨rfl, HB.out⟩
end Bw
end Go.Proofs.YtapjiopnjfldhaaDoor
namespace Go.Proofs.YtapjiopnjfldhaaDoor
open Go.ChangeShapes Go.WideShapes Go.ChangeAt Go.RowKit
namespace Bw
/-- two filters in cells of their own -/
def box2 (w : World) (x y : Fl) : World := (w.alloc (.cells #[.int .i64 x.w, .int .i64 x.m, .bool x.lo] 43)).alloc (.cells #[.int .i64 y.w, .int .i64 y.m, .bool y.lo] 43)
theorem box2_below (w : World) (x y : Fl) : Below w.heap.size w (box2 w x y) := ((Below.refl _ _).alloc (Nat.le_refl _) _).alloc (by simp) _
theorem holds_eq (x y : Fn) : holdsN x y = ((andnotN x.m y.m == 0) && meetN x y) := by
  unfold holdsN meetN
  rw [Bool.eq_iff_iff]
  simp only [Bool.and_eq_true, beq_iff_eq]
  rw [andnot_zero]
  constructor
  · rintro ⟨h1, h2, h3⟩
    refine ⟨h2, h1, Nat.eq_of_testBit_eq fun i => ?_⟩
    have e3 := bit_of h3 i
    simp only [Nat.testBit_and, Nat.testBit_xor, Nat.zero_testBit] at e3 ⊢
    revert e3
    cases x.w.testBit i <;> cases x.m.testBit i <;> cases y.w.testBit i <;> cases y.m.testBit i <;> decide
  · rintro ⟨h2, h1, h3⟩
    refine ⟨h1, h2, Nat.eq_of_testBit_eq fun i => ?_⟩
    have e2 := bit_of h2 i
    have e3 := bit_of h3 i
    simp only [Nat.testBit_and, Nat.testBit_xor, Nat.zero_testBit] at e2 e3 ⊢
    revert e2 e3
    cases x.w.testBit i <;> cases x.m.testBit i <;> cases y.w.testBit i <;> cases y.m.testBit i <;> decide
set_option maxHeartbeats 1000000 in
theorem holds_any (x y : Fn) (w : World) (hx : okN x) (hy : okN y) :
    Calls Tryd.prog 80 #[x.f.val, y.f.val] w fun e w' => e = .returned (.bool (holdsN x y)) ∧ Below w.heap.size w w' := by
  obtain ⟨x1, x2⟩ := ok_lt hx
  obtain ⟨y1, y2⟩ := ok_lt hy
  have HM := Hid.mk (fun W => meet_any x y W hx hy)
  have HB := Hid.mk (box2_below w x.f y.f)
  have key := andnot_i64 x.m y.m (by omega) (by omega)
  rw [holds_eq]
  clear hx hy x1 x2 y1 y2
  unfold box2 at HB
  unfold Fn.f Fl.val at *
  simp only at HB HM ⊢
  by_cases hz : andnotN x.m y.m = 0
  · have hb : (bits .andNot .i64 (x.m : Int) (y.m : Int) == 0) = true := by rw [key, hz]; rfl
    have hr : (andnotN x.m y.m == 0) = true := by simp [hz]
    rw [hr]
    simp only [Bool.true_and]
    clear key hz hr
    go_enter Tryd.func80, Tryd.ntmps80
    go_wp2_with fail
    refine (HM.out _).mono ?_
    rintro e w1 ⟨rfl, hb1⟩
    have HB1 := Hid.mk (bl2 HB.out hb1)
    clear hb1
    go_wp2_with fail
    go_ret
    exact ⟨rfl, HB1.out⟩
  · have hb : (bits .andNot .i64 (x.m : Int) (y.m : Int) == 0) = false := by rw [key, beq_eq_false_iff_ne]; omega
    have hr : (andnotN x.m y.m == 0) = false := by simp [hz]
    rw [hr]
    simp only [Bool.false_and]
    clear key hz hr
    go_enter Tryd.func80, Tryd.ntmps80
    go_wp2_with fail
    go_ret
    exact ⟨rfl, HB.out⟩
theorem filter_i : (Tryd.prog.info? 43).map (·.size) = some 3 := by kernel_rfl
theorem resF (k : Nat) (fn : Func) (hf : fn.results = #[.cell k 43]) (tmps : Array Value) (w : World) (g : Nat) (cs : Array Value) (hp : tmps.getD k undef = .pointer (some ⟨g, 0, none⟩)) (h : w.heap[g]? = some (.cells cs 43 (0, 0))) (hs : cs.size = 3) :
    (results fn tmps).run Tryd.prog w = .ok (.agg cs) w := by
  have hl := run_loadVar_row (P := Tryd.prog) w g 43 43 cs (0, 0) _ h Tryd.underlying43 rfl (by rw [filter_i, hs])
  have hp' : tmps[k]?.getD undef = .pointer (some ⟨g, 0, none⟩) := by simpa using hp
  simp [results, hf, hp', asAddr, hl]
theorem new3 (w : World) (a b c : Obj) : (((w.alloc a).alloc b).alloc c).heap[w.heap.size + 2]? = some c := by
  have := heap_alloc_new ((w.alloc a).alloc b) c
  simpa using this
end Bw
end Go.Proofs.YtapjiopnjfldhaaDoor
namespace Go.Proofs.YtapjiopnjfldhaaDoor
open Go.ChangeShapes Go.WideShapes Go.ChangeAt Go.RowKit
namespace Bw
def s1I (m x : Int) : Int := IntKind.u64.wrap (bits .and .u64 (x / 2) m + bits .and .u64 x m)
def s2I (m x : Int) : Int := IntKind.u64.wrap (bits .and .u64 (x / 4) m + bits .and .u64 x m)
def s3I (m x : Int) : Int := bits .and .u64 (IntKind.u64.wrap (x / 16 + x)) m
def s4I (q x : Int) : Int := IntKind.u64.wrap (x + x / q)
def onesI (x : Int) : Int := bits .and .i64 (wrap64 (s4I 4294967296 (s4I 65536 (s4I 256 (s3I 1085102592571150095 (s2I 3689348814741910323 (s1I 6148914691236517205 x))))))) 127
theorem wraps_u64 (n : Int) (h0 : 0 ≤ n) (h1 : n < 18446744073709551616) : IntKind.u64.wrap n = n := by rw [IntKind.wrap_u64]; omega
theorem wrap64_small (n : Int) (h0 : 0 ≤ n) (h1 : n < 2 ^ 63) : wrap64 n = n := by unfold wrap64; omega
theorem s1_nat (m x : Nat) (hm : m < 18446744073709551616) (hx : x < 2 ^ 32) : s1I m x = (st1 m x : Nat) := by
  unfold s1I st1
  have l1 : x / 2 &&& m ≤ x / 2 := Nat.and_le_left
  have l2 : x &&& m ≤ x := Nat.and_le_left
  rw [show (x : Int) / 2 = ((x / 2 : Nat) : Int) by omega, bits_and_u64_nat _ _ (by omega) hm, bits_and_u64_nat _ _ (by omega) hm, wraps_u64 _ (by omega) (by omega)]
  omega
theorem s2_nat (m x : Nat) (hm : m < 18446744073709551616) (hx : x < 2 ^ 34) : s2I m x = (st2 m x : Nat) := by
  unfold s2I st2
  have l1 : x / 4 &&& m ≤ x / 4 := Nat.and_le_left
  have l2 : x &&& m ≤ x := Nat.and_le_left
  rw [show (x : Int) / 4 = ((x / 4 : Nat) : Int) by omega, bits_and_u64_nat _ _ (by omega) hm, bits_and_u64_nat _ _ (by omega) hm, wraps_u64 _ (by omega) (by omega)]
  omega
theorem s3_nat (m x : Nat) (hm : m < 18446744073709551616) (hx : x < 2 ^ 36) : s3I m x = (st3 m x : Nat) := by
  unfold s3I st3
  rw [wraps_u64 _ (by omega) (by omega), show (x : Int) / 16 + (x : Int) = ((x / 16 + x : Nat) : Int) by omega, bits_and_u64_nat _ _ (by omega) hm]
theorem s4_nat (q x : Nat) (hx : x < 2 ^ 40) : s4I q x = ((x + x / q : Nat) : Int) := by
  unfold s4I
  have l : x / q ≤ x := Nat.div_le_self _ _
  have e : (x : Int) / (q : Int) = ((x / q : Nat) : Int) := by simp
  rw [e]
  generalize x / q = y at *
  rw [wraps_u64 _ (by omega) (by omega)]
  omega
theorem ones_nat (x : Nat) (hx : x < 2 ^ 32) : onesI x = (popN 32 x : Nat) := by
  obtain ⟨t, ht, b1, b2, b3, hr⟩ := ones_sums x hx
  unfold onesN at ht
  have l1 : st1 6148914691236517205 x < 2 ^ 34 := by
    have l1 : x / 2 &&& 6148914691236517205 ≤ x / 2 := Nat.and_le_left
    have l2 : x &&& 6148914691236517205 ≤ x := Nat.and_le_left
    unfold st1; omega
  have l2 : st2 3689348814741910323 (st1 6148914691236517205 x) < 2 ^ 36 := by
    generalize st1 6148914691236517205 x = y at *
    have l1 : y / 4 &&& 3689348814741910323 ≤ y / 4 := Nat.and_le_left
    have l2 : y &&& 3689348814741910323 ≤ y := Nat.and_le_left
    unfold st2; omega
  have e1 := s1_nat 6148914691236517205 x (by omega) hx
  have e2 := s2_nat 3689348814741910323 _ (by omega) l1
  have e3 := s3_nat 1085102592571150095 _ (by omega) l2
  rw [← ht] at e3
  have e4 := s4_nat 256 t (by omega)
  have e5 := s4_nat 65536 (t + t / 256) (by omega)
  have e6 := s4_nat 4294967296 (t + t / 256 + (t + t / 256) / 65536) (by omega)
  simp only [Int.cast_ofNat_Int] at e1 e2 e3 e4 e5 e6
  unfold onesI
  rw [e1, e2, e3, e4, e5, e6, wrap64_small _ (by omega) (by omega)]
  have hm := bits_mask .i64 62 (by decide) (fun n h0 h1 => wraps_i64 n h0 (by omega)) 7 (by decide) (((t + t / 256 + (t + t / 256) / 65536) + (t + t / 256 + (t + t / 256) / 65536) / 4294967296 : Nat) : Int) (by omega) (by omega)
  rw [show (2 : Int) ^ 7 - 1 = 127 by decide] at hm
  rw [hm, ← hr]
  omega
end Bw
end Go.Proofs.YtapjiopnjfldhaaDoor
namespace Go.Proofs.YtapjiopnjfldhaaDoor
open Go.ChangeShapes Go.WideShapes Go.ChangeAt Go.RowKit
namespace Bw
/-- one filter in cells of its own -/
def box1 (w : World) (x : Fl) : World := w.alloc (.cells #[.int .i64 x.w, .int .i64 x.m, .bool x.lo] 43)
theorem box1_below (w : World) (x : Fl) : Below w.heap.size w (box1 w x) := (Below.refl _ _).alloc (Nat.le_refl _) _
def sizeN (x : Fn) : Nat := cntN x.lo (hitN x x.lo)
theorem pop_wid (lo : Bool) (y : Nat) (h : y ≤ topN lo) : popN 32 y = popN (widN lo) y := by
  cases lo
  · exact popN_more 11 21 y (Nat.lt_of_le_of_lt h (by decide))
  · exact popN_more 29 3 y (Nat.lt_of_le_of_lt h (by decide))
theorem size_32 (x : Fn) (h : okN x) : sizeN x = 2 ^ popN 32 (topN x.lo - x.m) := by
  unfold sizeN
  rw [size_N x h, pop_wid x.lo _ (Nat.sub_le _ _)]
theorem popN_29 (x : Fn) : popN 32 (topN x.lo - x.m) ≤ 29 := by
  rw [pop_wid x.lo _ (Nat.sub_le _ _)]
  refine Nat.le_trans (popN_le _ _) ?_
  cases x.lo <;> decide
theorem last_of (lo : Bool) (W0 W : World) (hL : LastsAt W0) (h : W.heap = W0.heap) :
    Calls Tryd.prog 79 #[.bool lo] W fun e w' => e = .returned (.int .i64 (topN lo)) ∧ w' = W :=
  last_any lo W (by unfold LastsAt World.cell? at *; rw [h]; exact hL)
theorem dr_below {w a : World} (h : Below w.heap.size w a) (n : Nat) : Below w.heap.size w (a.drewN n) := bl2 h ⟨rfl, rfl, rfl, Nat.le_refl _, fun _ _ => rfl⟩
theorem top_andnot (x : Fn) (h : okN x) : andnotN (topN x.lo) x.m = topN x.lo - x.m := by
  have := h.m
  have h2 := topN_lt x.lo
  rw [topN_eq, andnot_top _ _ (by omega)]
/-- a filter that may be -/
def okFl (x : Fl) : Bool := decide (0 ≤ x.w ∧ 0 ≤ x.m ∧ x.w ≤ topN x.lo ∧ x.m ≤ topN x.lo)
set_option maxHeartbeats 2000000 in
theorem isWrong_any (x : Fl) (w : World) (hL : LastsAt w) :
    Calls Tryd.prog 82 #[x.val] w fun e w' => e = .returned (.bool (!okFl x)) ∧ Below w.heap.size w w' := by
  have hB := box1_below w x
  have hL1 := hL.kept hB
  have HLa := Hid.mk (fun W => last_of x.lo (box1 w x) W hL1)
  have HB := Hid.mk hB
  unfold box1 at HB HLa
  unfold okFl Fl.val at *
  obtain ⟨a, m, lo⟩ := x
  simp only at HB HLa ⊢
  clear hL hL1 hB
  generalize topN lo = t at *
  obtain ⟨mn, hmn⟩ : ∃ mn, mn = min a m := ⟨_, rfl⟩
  obtain ⟨mx, hmx⟩ : ∃ mx, mx = max a m := ⟨_, rfl⟩
  have hmin : ∀ ts t W, (Builtin.min_ ts t #[.int .i64 a, .int .i64 m]).run Tryd.prog W = .ok (.int .i64 mn) W := by
    intro ts t W
    rw [hmn]
    simp [Builtin.min_, Builtin.min2]
    split <;> omega
  have hmax : ∀ ts t W, (Builtin.max_ ts t #[.int .i64 a, .int .i64 m]).run Tryd.prog W = .ok (.int .i64 mx) W := by
    intro ts t W
    rw [hmx]
    simp [Builtin.max_, Builtin.max2]
    split <;> omega
  by_cases h0 : mn < 0
  · have hr : (!decide (0 ≤ a ∧ 0 ≤ m ∧ a ≤ (t : Int) ∧ m ≤ (t : Int))) = true := by simp; omega
    rw [hr]
    have hd : decide (mn < 0) = true := by simp; omega
    clear hr h0 hmn hmx
    go_enter Tryd.func82, Tryd.ntmps82
    go_wp2_with fail
    go_quiet ((go_at_call 79; refine Calls.quiet_of_same (HLa.out _ rfl)))
    go_wp2_with fail
    go_ret
    exact ⟨rfl, dr_below HB.out _⟩
  · by_cases h1 : mx ≤ (t : Int)
    · have hr : (!decide (0 ≤ a ∧ 0 ≤ m ∧ a ≤ (t : Int) ∧ m ≤ (t : Int))) = false := by simp; omega
      rw [hr]
      have hd : decide (mn < 0) = false := by simp; omega
      have hd2 : decide ((t : Int) < mx) = false := by simp; omega
      clear h1
      clear hr h0 hmn hmx
      go_enter Tryd.func82, Tryd.ntmps82
      go_wp2_with fail
      go_quiet ((go_at_call 79; refine Calls.quiet_of_same (HLa.out _ rfl)))
      go_wp2_with fail
      go_ret
      exact ⟨rfl, dr_below HB.out _⟩
    · have hr : (!decide (0 ≤ a ∧ 0 ≤ m ∧ a ≤ (t : Int) ∧ m ≤ (t : Int))) = true := by simp; omega
      rw [hr]
      have hd : decide (mn < 0) = false := by simp; omega
      have hd2 : decide ((t : Int) < mx) = true := by simp; omega
      clear h1
      clear hr h0 hmn hmx
      go_enter Tryd.func82, Tryd.ntmps82
      go_wp2_with fail
      go_quiet ((go_at_call 79; refine Calls.quiet_of_same (HLa.out _ rfl)))
      go_wp2_with fail
      go_ret
      exact ⟨rfl, dr_below HB.out _⟩
theorem pow_i (j : Nat) : ((2 ^ j : Nat) : Int) = 2 ^ j := by simp
end Bw
end Go.Proofs.YtapjiopnjfldhaaDoor
