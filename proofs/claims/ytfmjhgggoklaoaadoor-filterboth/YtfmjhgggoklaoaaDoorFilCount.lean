/- What filter.Count answers. -/
import Derived.Test.YtfmjhgggoklaoaaDoorFilCheck
import Derived.BigQuiet
import Derived.Lib.QuietBelow
namespace Go.Proofs.YtfmjhgggoklaoaaDoor
open Go.ChangeShapes Go.WideShapes Go.ChangeAt Go.RowKit Go.Sort
namespace Bw
/-- a filter in a block of its own -/
structure FlAt (w : World) (g : Nat) (x : Fl) : Prop where
  c0 : w.cell? ⟨g, 0, none⟩ = some (.int .i64 x.w)
  c1 : w.cell? ⟨g, 1, none⟩ = some (.int .i64 x.m)
  c2 : w.cell? ⟨g, 2, none⟩ = some (.bool x.lo)
theorem FlAt.kept {w w' : World} {g : Nat} {x : Fl} (h : FlAt w g x) (hb : Below w.heap.size w w') : FlAt w' g x := ⟨cell_kept hb h.c0, cell_kept hb h.c1, cell_kept hb h.c2⟩
theorem FlAt.box (w : World) (x : Fl) : FlAt (box1 w x) w.heap.size x := by
  have h := heap_alloc_new w (.cells #[.int .i64 x.w, .int .i64 x.m, .bool x.lo] 34)
  exact ⟨cell_of_row _ _ 0 _ _ _ h, cell_of_row _ _ 1 _ _ _ h, cell_of_row _ _ 2 _ _ _ h⟩
theorem FlAt.regrown {w : World} {g : Nat} {x : Fl} (h : FlAt w g x) (d : Nat) (os : Array Obj) : FlAt (grow (redrawn w d) os) g x := h.kept (below_regrown w d os)
theorem IsFils.regrown {w : World} {a : Option Addr} {n cap : Nat} {l : List Fl} (h : IsFils w a n cap l) (d : Nat) (os : Array Obj) : IsFils (grow (redrawn w d) os) a n cap l := h.kept (below_regrown w d os)
theorem LastsAt.regrown {w : World} (h : LastsAt w) (d : Nat) (os : Array Obj) : LastsAt (grow (redrawn w d) os) := h.kept (below_regrown w d os)
/-- the value of the small function inside Count -/
def leftF (gl gf : Nat) : Value := .func (.func 32) #[] #[.pointer (some ⟨gl, 0, none⟩), .pointer (some ⟨gf, 0, none⟩)]
/-- what it reads -/
structure CntAt (w : World) (gl gf : Nat) (a : Option Addr) (n c : Nat) (l : List Fn) : Prop where
  sl : w.cell? ⟨gl, 0, none⟩ = some (.slice a n c)
  fn : w.cell? ⟨gf, 0, none⟩ = some (leftF gl gf)
  row : IsFils w a n c (l.map Fn.f)
  lasts : LastsAt w
theorem CntAt.kept {w w' : World} {gl gf : Nat} {a : Option Addr} {n c : Nat} {l : List Fn} (h : CntAt w gl gf a n c l) (hb : Below w.heap.size w w') : CntAt w' gl gf a n c l := ⟨cell_kept hb h.sl, cell_kept hb h.fn, h.row.kept hb, h.lasts.kept hb⟩
theorem CntAt.regrown {w : World} {gl gf : Nat} {a : Option Addr} {n c : Nat} {l : List Fn} (h : CntAt w gl gf a n c l) (d : Nat) (os : Array Obj) : CntAt (grow (redrawn w d) os) gl gf a n c l := h.kept (below_regrown w d os)
theorem map_getD (l : List Fn) (i : Nat) (h : i < l.length) : (l.map Fn.f).getD i noF = (l.getD i ⟨0, 0, false⟩).f := by simp [List.getD, h]
theorem drop_at (l : List Fn) (i : Nat) (h : i < l.length) : l.drop i = l.getD i ⟨0, 0, false⟩ :: l.drop (i + 1) := by
  rw [List.drop_eq_getElem_cons h]
  simp [List.getD, h]
set_option maxHeartbeats 8000000 in
set_option maxRecDepth 100000 in
theorem left_any (gl gf : Nat) (a : Option Addr) (n c : Nat) (l : List Fn) (hok : ∀ x ∈ l, okN x) (hn : n ≤ 16) : ∀ (k i : Nat) (x : Fn) (w : World), i + k = n → okN x → CntAt w gl gf a n c l →
    Calls Tryd.prog 32 #[x.f.val, .int .i64 i, .pointer (some ⟨gl, 0, none⟩), .pointer (some ⟨gf, 0, none⟩)] w fun e w' => e = .returned (.int .i64 (leftN (l.drop i) x)) ∧ Below w.heap.size w w' := by
  intro k
  induction k with
  | zero =>
    intro i x w hi hx hC
    have hlen : l.length = n := by have := hC.row.len; simpa using this
    have hC1 := hC.kept (box1_below w x.f)
    have HS := Hid.mk (size_any x (box1 w x.f) hx hC1.lasts)
    have e : leftN (l.drop i) x = sizeN x := by
      rw [List.drop_eq_nil_of_le (by omega), leftN_nil]
      rfl
    rw [e]
    have hsl := hC1.sl
    have HB := Hid.mk (box1_below w x.f)
    obtain rfl : i = n := by omega
    clear hi hx hC hC1 e hlen
    unfold box1 at *
    unfold Fn.f Fl.val at *
    simp only at HS hsl HB ⊢
    go_enter Tryd.func32, Tryd.ntmps32
    go_wp2_with fail
    refine HS.out.mono ?_
    rintro e w1 ⟨rfl, hb1⟩
    have HB1 := Hid.mk (bl2 HB.out hb1)
    clear hb1
    go_wp2_with fail
    go_ret
    exact ⟨rfl, HB1.out⟩
  | succ k ih =>
    intro i x w hi hx hC
    have hlen : l.length = n := by have := hC.row.len; simpa using this
    have hin : i < n := by omega
    have hC1 := hC.kept (box1_below w x.f)
    have hsl := hC1.sl
    have hfn := hC1.fn
    have hF := FlAt.box w x.f
    have HI := Hid.mk (fun y W hy hW => ih (i + 1) y W (by omega) hy hW)
    have HB := Hid.mk (box1_below w x.f)
    have HC1 := Hid.mk hC1
    have HX := Hid.mk hx
    have HF := Hid.mk hF
    have hne : ((i : Int) == (n : Int)) = false := by rw [beq_eq_false_iff_ne]; omega
    have hi16 : (i : Int) + 1 ≤ 16 := by omega
    have HD := Hid.mk (drop_at l i (by omega))
    have HOK := Hid.mk (getD_ok hok i)
    have HIN := Hid.mk hin
    have HLN := Hid.mk hlen
    obtain ⟨y, hy⟩ : ∃ y, y = l.getD i ⟨0, 0, false⟩ := ⟨_, rfl⟩
    rw [← hy] at HD HOK
    have HY := Hid.mk hy
    clear ih hi hx hC hC1 hlen hF hy hin
    unfold leftF at hfn
    unfold box1 at hsl hfn HB HC1 HF
    rw [HD.out]
    have HK := Hid.mk (leftN_cons (l.drop (i + 1)) x y)
    have hl1 := cntN_le x.lo (fun n => hitN x x.lo n && !anyN (l.drop (i + 1)) x.lo n)
    have e1 : cntN x.lo (fun n => hitN x x.lo n && !anyN (l.drop (i + 1)) x.lo n) = leftN (l.drop (i + 1)) x := rfl
    rw [e1] at hl1
    clear e1
    have HI1 := Hid.mk (fun W hW => HI.out x W HX.out hW)
    have HM := Hid.mk (fun W => meet_any x y W HX.out HOK.out)
    have HSH := Hid.mk (fun W => shared_any x y W HX.out HOK.out)
    have HI2 := Hid.mk (fun (h : meetN x y = true) W hW => HI.out (sharedN x y) W (shared_ok HX.out HOK.out h) hW)
    clear HI
    unfold Fn.f Fl.val at *
    simp only at HI1 HM HSH HI2 HB HF HC1 hsl hfn ⊢
    obtain ⟨L1, hL1⟩ : ∃ L1, L1 = leftN (l.drop (i + 1)) x := ⟨_, rfl⟩
    obtain ⟨L0, hL0⟩ : ∃ L0, L0 = leftN (y :: l.drop (i + 1)) x := ⟨_, rfl⟩
    rw [← hL1] at HI1 HK hl1
    rw [← hL0] at HK ⊢
    clear hL1 hL0
    go_enter Tryd.func32, Tryd.ntmps32
    go_wp2_with fail
    refine (HI1.out _ HC1.out).mono ?_
    rintro e w1 ⟨rfl, hb1⟩
    have HB1 := Hid.mk (bl2 HB.out hb1)
    have HC2 := Hid.mk (HC1.out.kept hb1)
    have HF2 := Hid.mk (HF.out.kept hb1)
    clear hb1 hsl hfn HC1 HF HB
    go_wp2_with fail
    obtain ⟨X, rfl⟩ := fils_some HC2.out.row HIN.out
    have hEl : (l.map Fn.f).getD i noF = ⟨(y.w : Int), (y.m : Int), y.lo⟩ := by
      rw [map_getD l i (by rw [HLN.out]; exact HIN.out), ← HY.out]
      rfl
    have HEl := Hid.mk hEl
    clear hEl
    have hin' : (i : Int) < (n : Int) := by have := HIN.out; omega
    have rx := fun d os => HF2.out.regrown d os
    have rx0 := fun d os => (rx d os).c0
    have rx1 := fun d os => (rx d os).c1
    have rx2 := fun d os => (rx d os).c2
    have rsl := fun d os => (HC2.out.regrown d os).sl
    have rfn := fun d os => (HC2.out.regrown d os).fn
    have rel := fun d os => fils_at (HC2.out.regrown d os).row HIN.out
    rw [HEl.out] at rel
    simp only at rel rx0 rx1 rx2
    have re0 := fun d os => (rel d os).1
    have re1 := fun d os => (rel d os).2.1
    have re2 := fun d os => (rel d os).2.2
    unfold leftF at rfn
    clear rel rx
    refine wp_region_quiet_below (by kernel_rfl) (by kernel_rfl) ?_
    repeat (go_big_quiet_step ((go_at_call 34; exact Calls.regrown_of (HM.out _))))
    refine wpQuiet_nil ?_
    intro _ hw'
    obtain ⟨⟨dq, osq⟩, hw''⟩ := hw'
    have hbq := below_regrown w1 dq osq
    rw [hw'']
    generalize grow (redrawn w1 dq) osq = w2 at *
    have HB2 := Hid.mk (bl2 HB1.out hbq)
    have HC3 := Hid.mk (HC2.out.kept hbq)
    have HF3 := Hid.mk (HF2.out.kept hbq)
    clear hw'' hbq HB1 HC2 HF2 rx0 rx1 rx2 rsl rfn re0 re1 re2
    cases hm : meetN x y
    · rw [hm] at HK
      have hK := HK.out
      simp only [Bool.false_eq_true, if_false, Nat.add_zero] at hK
      subst hK
      go_wp2_with fail
      go_ret
      exact ⟨rfl, HB2.out⟩
    · rw [hm] at HK
      have hK := HK.out
      simp only [if_true] at hK
      have HIS := Hid.mk (HI2.out hm)
      have HKK := Hid.mk hK
      obtain ⟨L2, hL2⟩ : ∃ L2, L2 = leftN (l.drop (i + 1)) (sharedN x y) := ⟨_, rfl⟩
      rw [← hL2] at HIS HKK hK
      have hsub : (L1 : Int) - (L2 : Int) = (L0 : Int) := by omega
      have hL2b : L2 ≤ 536870912 := by omega
      have HSUB := Hid.mk hsub
      obtain ⟨z, hz⟩ : ∃ z, z = sharedN x y := ⟨_, rfl⟩
      rw [← hz] at HIS HSH
      clear hK HI2 hm hz hsub HKK HK hL2
      have rx := fun d os => HF3.out.regrown d os
      have rx0 := fun d os => (rx d os).c0
      have rx1 := fun d os => (rx d os).c1
      have rx2 := fun d os => (rx d os).c2
      have rsl := fun d os => (HC3.out.regrown d os).sl
      have rfn := fun d os => (HC3.out.regrown d os).fn
      have rel := fun d os => fils_at (HC3.out.regrown d os).row HIN.out
      rw [HEl.out] at rel
      simp only at rel rx0 rx1 rx2
      have re0 := fun d os => (rel d os).1
      have re1 := fun d os => (rel d os).2.1
      have re2 := fun d os => (rel d os).2.2
      unfold leftF at rfn
      clear rel rx
      go_wp2_with fail
      refine wp_region_quiet_below (by kernel_rfl) (by kernel_rfl) ?_
      repeat (go_big_quiet_step (first
        | (go_at_call 35; exact Calls.regrown_of (HSH.out _))
        | (go_at_call 32; exact Calls.regrown_of (HIS.out _ (HC3.out.regrown _ _)))))
      refine wpQuiet_nil ?_
      intro _ hw'
      obtain ⟨⟨dq, osq⟩, hw''⟩ := hw'
      have hbq := below_regrown w2 dq osq
      rw [hw'']
      generalize grow (redrawn w2 dq) osq = w3 at *
      have HB3 := Hid.mk (bl2 HB2.out hbq)
      clear hw'' hbq HB2 HC3 HF3 rx0 rx1 rx2 rsl rfn re0 re1 re2
      go_wp2_with fail
      go_ret
      exact ⟨by rw [← HSUB.out]; rfl, HB3.out⟩
/-- right filters are such -/
theorem fn_of : ∀ {l : List Fl}, (∀ x ∈ l, okFl x = true) → ∃ ns : List Fn, l = ns.map Fn.f ∧ ∀ x ∈ ns, okN x
  | [], _ => ⟨[], rfl, fun x hx => by cases hx⟩
  | x :: l, h => by
    obtain ⟨ns, h1, h2⟩ := fn_of (l := l) fun y hy => h y (List.mem_cons_of_mem _ hy)
    have hx := h x List.mem_cons_self
    unfold okFl at hx
    simp only [decide_eq_true_eq] at hx
    obtain ⟨a, m, lo⟩ := x
    simp only at hx
    obtain ⟨a, rfl⟩ := Int.eq_ofNat_of_zero_le hx.1
    obtain ⟨m, rfl⟩ := Int.eq_ofNat_of_zero_le hx.2.1
    refine ⟨⟨a, m, lo⟩ :: ns, by rw [h1]; rfl, ?_⟩
    intro y hy
    rcases List.mem_cons.1 hy with rfl | hy
    · exact ⟨by simp only; omega, by simp only; omega⟩
    · exact h2 y hy
theorem okFl_f {x : Fn} (h : okN x) : okFl x.f = true := by
  unfold okFl Fn.f
  simp only [decide_eq_true_eq]
  have h1 := h.w
  have h2 := h.m
  omega
theorem chk_ok {l : List Fn} (h : ∀ x ∈ l, okN x) (hn : l.length ≤ 16) : chkFl (l.map Fn.f) = 0 := by
  unfold chkFl
  rw [List.length_map, if_neg (by omega)]
  apply badFl_no
  rw [List.any_eq_false]
  intro x hx
  obtain ⟨y, hy, rfl⟩ := List.mem_map.1 hx
  rw [okFl_f (h y hy)]
  decide
/-- a value in a block of its own -/
theorem cell_new (w : World) (v : Value) (t : TypeId) : (w.alloc (.cells #[v] t)).cell? ⟨w.heap.size, 0, none⟩ = some v := cell_of_row _ _ 0 _ _ _ (heap_alloc_new w _)
theorem boxv_below (w : World) (v : Value) (t : TypeId) : Below w.heap.size w (w.alloc (.cells #[v] t)) := (Below.refl _ _).alloc (Nat.le_refl _) _
/-- a function's value laid into its variable -/
theorem store_fn (w : World) (f : Nat) (lb : Array Value) (t : TypeId) : (store ⟨w.heap.size, 0, none⟩ (.func (.func f) #[] lb)).run Tryd.prog (w.alloc (.cells #[.nilFunc] t)) = .ok () (w.alloc (.cells #[.func (.func f) #[] lb] t)) := by
  rw [run_store _ _ _ _ _ rfl]
  simp [go_sem]
set_option maxHeartbeats 4000000 in
set_option maxRecDepth 100000 in
theorem count_bad (a : Option Addr) (n c : Nat) (l : List Fl) (lo : Bool) (w : World) (hF : IsFils w a n c l) (hL : LastsAt w) (hE : chkFl l ≠ 0) :
    Calls Tryd.prog 19 #[.slice a n c, .bool lo] w fun e w' => e = .returned (.tuple #[.int .i64 0, .int .i64 (chkFl l)]) ∧ Below w.heap.size w w' := by
  have hb := boxv_below w (.slice a n c) 22
  have HC := Hid.mk (fcheck_any a n c l _ (hF.kept hb) (hL.kept hb))
  have HB := Hid.mk hb
  have he : (chkFl l != 0) = true := by simpa using hE
  clear hF hL hE hb
  generalize chkFl l = e at *
  go_enter Tryd.func19, Tryd.ntmps19
  go_wp2_with fail
  refine HC.out.mono ?_
  rintro e w1 ⟨rfl, hb1⟩
  have HB1 := Hid.mk (bl2 HB.out hb1)
  clear hb1
  go_wp2_with fail
  go_ret2
  exact ⟨rfl, HB1.out⟩
set_option maxHeartbeats 8000000 in
set_option maxRecDepth 100000 in
theorem count_ok (a : Option Addr) (n c : Nat) (l : List Fn) (lo : Bool) (w : World) (hF : IsFils w a n c (l.map Fn.f)) (hL : LastsAt w) (hok : ∀ x ∈ l, okN x) (hn : n ≤ 16) :
    Calls Tryd.prog 19 #[.slice a n c, .bool lo] w fun e w' => e = .returned (.tuple #[.int .i64 (countN l lo), .int .i64 0]) ∧ Below w.heap.size w w' := by
  have hlen : l.length = n := by have := hF.len; simpa using this
  have hb := boxv_below w (.slice a n c) 22
  have hC := fcheck_any a n c _ _ (hF.kept hb) (hL.kept hb)
  rw [chk_ok hok (by omega)] at hC
  have HC := Hid.mk hC
  have HB := Hid.mk hb
  have HF := Hid.mk (hF.kept hb)
  have HL := Hid.mk (hL.kept hb)
  have HSL := Hid.mk (cell_new w (.slice a n c) 22)
  have hw : okN (wholeN lo) := ⟨Nat.zero_le _, Nat.zero_le _⟩
  have HS := Hid.mk (fun W hW => size_any (wholeN lo) W hw hW)
  have HLF := Hid.mk (fun gf W hW => left_any w.heap.size gf a n c l hok hn n 0 (wholeN lo) W (by omega) hw hW)
  have hcl := countN_left l lo
  have hle := cntN_le lo (hitN (wholeN lo) lo)
  have e1 : sizeN (wholeN lo) = cntN lo (hitN (wholeN lo) lo) := rfl
  rw [← e1] at hcl hle
  rw [List.drop_zero] at HLF
  obtain ⟨S, hS⟩ : ∃ S, S = sizeN (wholeN lo) := ⟨_, rfl⟩
  obtain ⟨L, hL0⟩ : ∃ L, L = leftN l (wholeN lo) := ⟨_, rfl⟩
  obtain ⟨C, hC0⟩ : ∃ C, C = countN l lo := ⟨_, rfl⟩
  rw [← hS] at hcl hle HS
  rw [← hL0] at hcl HLF
  rw [← hC0] at hcl ⊢
  have hsub : (S : Int) - (L : Int) = (C : Int) := by omega
  have HSUB := Hid.mk hsub
  have hLb : L ≤ 536870912 := by omega
  unfold wholeN Fn.f Fl.val at HS HLF
  simp only [Int.cast_ofNat_Int] at HS HLF
  clear hF hL hok hlen hb hC hcl e1 hS hL0 hC0 hsub
  go_enter Tryd.func19, Tryd.ntmps19
  go_wp2_with fail
  refine HC.out.mono ?_
  rintro e w1 ⟨rfl, hb1⟩
  have HB1 := Hid.mk (bl2 HB.out hb1)
  have HF1 := Hid.mk (HF.out.kept hb1)
  have HL1 := Hid.mk (HL.out.kept hb1)
  have HSL1 := Hid.mk (cell_kept hb1 HSL.out)
  clear hb1 HB HF HL HSL HC
  have hst := store_fn w1 32 #[.pointer (some ⟨w.heap.size, 0, none⟩), .pointer (some ⟨w1.heap.size, 0, none⟩)] 55
  obtain ⟨w2, hw2⟩ : ∃ w2, w2 = w1.alloc (.cells #[leftF w.heap.size w1.heap.size] 55) := ⟨_, rfl⟩
  obtain ⟨w3, hw3⟩ : ∃ w3, w3 = box1 w2 ⟨0, 0, lo⟩ := ⟨_, rfl⟩
  have hb2 : Below w1.heap.size w1 w2 := by rw [hw2]; exact boxv_below w1 _ _
  have hb3 : Below w2.heap.size w2 w3 := by rw [hw3]; exact box1_below w2 _
  have hs2 : w2.heap.size = w1.heap.size + 1 := by rw [hw2]; simp
  have hfn : w2.cell? ⟨w1.heap.size, 0, none⟩ = some (leftF w.heap.size w1.heap.size) := by rw [hw2]; exact cell_new w1 _ _
  have hX := FlAt.box w2 ⟨0, 0, lo⟩
  rw [← hw3, hs2] at hX
  have HX := Hid.mk hX
  have HC3 := Hid.mk (CntAt.mk (l := l) (cell_kept hb3 (cell_kept hb2 HSL1.out)) (cell_kept hb3 hfn) ((HF1.out.kept hb2).kept hb3) ((HL1.out.kept hb2).kept hb3))
  have HB3 := Hid.mk (bl2 (bl2 HB1.out hb2) hb3)
  have HW : Hid (w3 = (w1.alloc (.cells #[.func (.func 32) #[] #[.pointer (some ⟨w.heap.size, 0, none⟩), .pointer (some ⟨w1.heap.size, 0, none⟩)]] 55)).alloc (.cells #[.int .i64 0, .int .i64 0, .bool lo] 34)) := Hid.mk (by rw [hw3, hw2]; rfl)
  clear hb2 hb3 hs2 hfn hX HB1 HF1 HL1 HSL1 hw2 hw3
  go_wp2_with fail
  rw [← HW.out]
  clear hst HW
  have rx := fun d os => HX.out.regrown d os
  have rx0 := fun d os => (rx d os).c0
  have rx1 := fun d os => (rx d os).c1
  have rx2 := fun d os => (rx d os).c2
  have rfn := fun d os => (HC3.out.regrown d os).fn
  simp only at rx0 rx1 rx2
  unfold leftF at rfn
  clear rx
  refine wp_region_quiet_below (by kernel_rfl) (by kernel_rfl) ?_
  repeat (go_big_quiet_step (first
    | (go_at_call 33; exact Calls.regrown_of (HS.out _ (HC3.out.regrown _ _).lasts))
    | (go_at_call 32; exact Calls.regrown_of (HLF.out _ _ (HC3.out.regrown _ _)))))
  refine wpQuiet_nil ?_
  intro _ hw'
  obtain ⟨⟨dq, osq⟩, hw''⟩ := hw'
  have hbq := below_regrown w3 dq osq
  rw [hw'']
  generalize grow (redrawn w3 dq) osq = w4 at *
  have HB4 := Hid.mk (bl2 HB3.out hbq)
  clear hw'' hbq HB3 HC3 HX rx0 rx1 rx2 rfn
  go_wp2_with fail
  go_ret2
  exact ⟨by rw [← HSUB.out]; rfl, HB4.out⟩
end Bw
end Go.Proofs.YtfmjhgggoklaoaaDoor
