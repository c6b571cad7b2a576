/- A list of routes that is cloned; slices.IndexFunc and ContainsFunc of lines, with RouteMore's own function. -/
import Derived.Test.YtapjiopnjfldhaaDoorA10
import Derived.Test.YtapjiopnjfldhaaDoorFrSame
import Derived.Test.YtapjiopnjfldhaaDoorA7
import Derived.Test.YtapjiopnjfldhaaDoorRtNew
import Derived.Deep.AppendLies
import Derived.Lib.SliceRun
import Derived.Shelf.Abstract
namespace Go.Proofs.YtapjiopnjfldhaaDoor
open Go.ChangeShapes Go.WideShapes Go.ChangeAt Go.RowKit Go.Sort
namespace Bw
open Bm Cm
set_option linter.unusedVariables false
theorem eqlR_nil (w : World) (cap : Nat) : (binOp .eql 22 (.slice none 0 cap) (.slice none 0 0)).run Tryd.prog w = .ok (.bool true) w :=
  Lib.run_eql_slice_nil w 22 45 none 0 cap 0 0 Tryd.underlying22
theorem eqlR_some (w : World) (x : Addr) (n cap : Nat) : (binOp .eql 22 (.slice (some x) n cap) (.slice none 0 0)).run Tryd.prog w = .ok (.bool false) w :=
  Lib.run_eql_slice_nil w 22 45 (some x) n cap 0 0 Tryd.underlying22
set_option maxHeartbeats 4000000 in
set_option maxRecDepth 100000 in
theorem cloneR_any (b : Option Addr) (m d : Nat) (ts : List Rt) (w : World) (hT : IsRts w b m d ts) (hm : m ≤ 2513169434843) :
    Calls Tryd.prog 23 #[.slice b m d] w fun e w' => ∃ v, e = .returned v ∧ w'.ownsRow w.heap.size 45 7 v m (rtsC ts) ∧ Below w.heap.size w w' := by
  have hlen := hT.len
  cases b with
  | none =>
    have h0 := hT.none rfl
    subst h0
    obtain rfl : ts = [] := List.eq_nil_of_length_eq_zero hlen
    have he := eqlR_nil w d
    clear hT
    go_enter Tryd.func23, Tryd.ntmps23
    go_wp2_with fail
    go_ret
    exact ⟨_, rfl, World.ownsRow_nil _ _ _ _, Below.refl _ _⟩
  | some x =>
    obtain ⟨i0, hi, hz0, hz1, hz2⟩ := info_parts info_rt
    have hB0 : Below w.heap.size w (w.alloc (.cells #[] 45)) := awB _ _
    have he := eqlR_some w x m d
    have HO := Hid.mk (show (w.alloc (.cells #[] 45)).ownsRow w.heap.size 45 7 (.slice (some ⟨w.heap.size, 0, none⟩) 0 0) 0 [] from World.ownsRow_made w #[] 0 (Nat.le_refl _) (Nat.zero_le _) rfl)
    have HCC := Hid.mk (rts_cells (hT.kept hB0))
    have HB := Hid.mk hB0
    have HCL : Hid ((rtsC ts).length = m * 7) := Hid.mk (by rw [rtsC_len, hlen])
    have HON := Hid.mk (rts_one ts)
    have HM := Hid.mk hm
    have HML := Hid.mk (Nat.le_trans hT.le hT.max)
    clear hT hB0 hm
    go_enter Tryd.func23, Tryd.ntmps23
    go_wp2_with (at_builtin; refine wpList_append_own _ rfl (.tmp 5) (.tmp 6) 22 rfl w.heap.size 45 i0 (.agg #[.int .i64 0, .int .i64 0, .int .i64 0, .int .i64 0, .bool false, .int .i64 0, .int .i64 0]) 7 56 Tryd.underlying22 hi hz0 hz1 hz2 rfl (by decide) _ _ _ rfl HO.out x m d (rtsC ts) rfl HCL.out HCC.out HON.out (by have := HML.out; omega) (by have := HM.out; omega) (by simp) ?_; intro v3 w3 hown3 hgrow3 _)
    rw [Nat.zero_add, List.nil_append] at hown3
    have hB3 : Below w.heap.size w w3 := Below.grown HB.out hgrow3 (by simp) (fun q hq => (HO.out.lt q hq).1)
    go_ret
    exact ⟨_, rfl, hown3, hB3⟩
/-- a line's value; its own variable -/
def LnR.val (v : LnR) : Value := .agg #[.int .i64 v.tm, .int .i64 v.bs, .int .i64 v.id, .bool v.lo, .bool v.fa, .bool v.re, .int .i64 v.sz, .slice v.a v.len v.cap]
def lnCl (v : LnR) : Obj := .cells #[.int .i64 v.tm, .int .i64 v.bs, .int .i64 v.id, .bool v.lo, .bool v.fa, .bool v.re, .int .i64 v.sz, .slice v.a v.len v.cap] 49
structure LnAt (w : World) (g : Nat) (v : LnR) : Prop where
  c0 : w.cell? ⟨g, 0, none⟩ = some (.int .i64 v.tm)
  c1 : w.cell? ⟨g, 1, none⟩ = some (.int .i64 v.bs)
  c2 : w.cell? ⟨g, 2, none⟩ = some (.int .i64 v.id)
  c3 : w.cell? ⟨g, 3, none⟩ = some (.bool v.lo)
  c4 : w.cell? ⟨g, 4, none⟩ = some (.bool v.fa)
  c5 : w.cell? ⟨g, 5, none⟩ = some (.bool v.re)
  c6 : w.cell? ⟨g, 6, none⟩ = some (.int .i64 v.sz)
  c7 : w.cell? ⟨g, 7, none⟩ = some (.slice v.a v.len v.cap)
theorem LnAt.kept {w w' : World} {g : Nat} {v : LnR} (h : LnAt w g v) (hb : Below w.heap.size w w') : LnAt w' g v :=
  ⟨cell_kept hb h.c0, cell_kept hb h.c1, cell_kept hb h.c2, cell_kept hb h.c3, cell_kept hb h.c4, cell_kept hb h.c5, cell_kept hb h.c6, cell_kept hb h.c7⟩
theorem LnAt.new (w : World) (v : LnR) : LnAt (w.alloc (lnCl v)) w.heap.size v := by
  have h := fun j => cell_of_row (w.alloc (lnCl v)) w.heap.size j _ _ _ (heap_alloc_new w _)
  exact ⟨h 0, h 1, h 2, h 3, h 4, h 5, h 6, h 7⟩
def LnR.fr (v : LnR) (dt : List UInt8) : Fr := ⟨v.id, v.lo, v.fa, v.re, v.sz, dt⟩
def sameB (x y : LnR) : Bool := (y.bs == x.bs) && decide (x.id = y.id ∧ x.lo = y.lo ∧ x.fa = y.fa ∧ x.re = y.re ∧ x.sz = y.sz)
open Classical in
theorem fr_same (x y : LnR) (dt : List UInt8) : decide (x.fr dt = y.fr dt) = decide (x.id = y.id ∧ x.lo = y.lo ∧ x.fa = y.fa ∧ x.re = y.re ∧ x.sz = y.sz) := by
  by_cases h : x.fr dt = y.fr dt
  · rw [decide_eq_true h]
    unfold LnR.fr at h
    simp only [Fr.mk.injEq, and_true] at h
    rw [decide_eq_true h]
  · rw [decide_eq_false h]
    unfold LnR.fr at h
    simp only [Fr.mk.injEq, and_true] at h
    rw [decide_eq_false h]
set_option maxHeartbeats 4000000 in
set_option maxRecDepth 100000 in
theorem moreL_any (x y : LnR) (g : Nat) (dt : List UInt8) (w : World) (hx : LnAt w g x) (h1 : IsBytes w x.a x.len x.cap dt) (h2 : IsBytes w y.a y.len y.cap dt) :
    Calls Tryd.prog 25 #[y.val, .pointer (some ⟨g, 0, none⟩)] w fun e w' => e = .returned (.bool (sameB x y)) ∧ Below w.heap.size w w' := by
  have hb0 := awB w (lnCl y)
  have HY := Hid.mk (LnAt.new w y)
  have HX := Hid.mk (hx.kept hb0)
  have HB := Hid.mk hb0
  have HSM := Hid.mk (fun (W : World) (hb : Below w.heap.size w W) => same_any (x.fr dt) (y.fr dt) x.a y.a x.len x.cap y.len y.cap W (isBytes_below h1 hb) (isBytes_below h2 hb))
  have HE : Hid (sameB x y = ((y.bs == x.bs) && decide (x.id = y.id ∧ x.lo = y.lo ∧ x.fa = y.fa ∧ x.re = y.re ∧ x.sz = y.sz))) := Hid.mk rfl
  simp only [fr_same] at HSM
  generalize decide (x.id = y.id ∧ x.lo = y.lo ∧ x.fa = y.fa ∧ x.re = y.re ∧ x.sz = y.sz) = D at *
  generalize sameB x y = SB at *
  obtain ⟨t1, b1, i1, l1, f1, r1, z1, a1, n1, c1⟩ := x
  obtain ⟨t2, b2, i2, l2, f2, r2, z2, a2, n2, c2⟩ := y
  obtain ⟨p0, p1, p2, p3, p4, p5, p6, p7⟩ := HX.out
  obtain ⟨q0, q1, q2, q3, q4, q5, q6, q7⟩ := HY.out
  unfold lnCl at HB HX HY p0 p1 p2 p3 p4 p5 p6 p7 q0 q1 q2 q3 q4 q5 q6 q7
  unfold LnR.fr frameV at HSM
  unfold LnR.val
  simp only at HB HX HY HSM HE p0 p1 p2 p3 p4 p5 p6 p7 q0 q1 q2 q3 q4 q5 q6 q7
  clear hb0 hx h1 h2
  cases hbb : (b2 == b1) with
  | false =>
    have HEE := HE.out
    rw [hbb, Bool.false_and] at HEE
    subst HEE
    go_enter Tryd.func25, Tryd.ntmps25
    go_wp2_with fail
    go_ret
    exact ⟨rfl, HB.out⟩
  | true =>
    have HEE := HE.out
    rw [hbb, Bool.true_and] at HEE
    subst HEE
    go_enter Tryd.func25, Tryd.ntmps25
    go_wp2_with fail
    refine (HSM.out _ HB.out).mono ?_
    rintro e w1 ⟨rfl, hb1⟩
    have HB1 := Hid.mk (bl2 HB.out hb1)
    clear hb1
    go_wp2_with fail
    go_ret
    exact ⟨rfl, HB1.out⟩
theorem any_takeL {l : List LnR} (p : LnR → Bool) {n : Nat} (hl : l.length = n) (h : ∀ j, j < n → p (l.getD j noLn) = false) : l.any p = false := by
  rw [List.any_eq_false]
  intro x hx
  obtain ⟨i, hi, rfl⟩ := List.mem_iff_getElem.1 hx
  have := h i (by omega)
  rw [getL hi] at this
  simp [this]
theorem any_hitL {l : List LnR} (p : LnR → Bool) {i : Nat} (h : i < l.length) (hp : p (l.getD i noLn) = true) : l.any p = true := by
  rw [List.any_eq_true]
  exact ⟨_, by rw [getL h]; exact List.getElem_mem h, hp⟩
set_option maxHeartbeats 4000000 in
set_option maxRecDepth 100000 in
theorem indexFuncL_any (g : Nat) (lb : Array Value) (eg : ∀ args w, (callFunc g args).run Tryd.prog w = .ok (.enter g args) w) (p : LnR → Bool) (a : Option Addr) (n c : Nat) (l : List LnR) (dt : List UInt8) (w : World) (hF : IsLns w a n c l dt)
    (hp : ∀ W x, Below w.heap.size w W → IsBytes W x.a x.len x.cap dt → Calls Tryd.prog g (#[x.val] ++ lb) W fun e w' => e = .returned (.bool (p x)) ∧ Below W.heap.size W w') :
    Calls Tryd.prog 52 #[.slice a n c, .func (.func g) #[] lb] w fun e w' => ∃ r : Int, e = .returned (.int .i64 r) ∧ decide (0 ≤ r) = l.any p ∧ Below w.heap.size w w' := by
  have HF := Hid.mk hF
  have HP := Hid.mk hp
  have hn63 : n ≤ 9223372036854775807 := by have h1 := hF.le; have h2 := hF.max; unfold maxLen at h2; omega
  clear hF hp
  go_enter Tryd.func52, Tryd.ntmps52
  go_wp2_with fail
  go_loopw [8] (fun i wr => ∃ k : Nat, k ≤ n ∧ i = .int .i64 k ∧ Hid (∀ j, j < k → p (l.getD j noLn) = false) ∧ Hid (Below w.heap.size w wr)) (fun i _ => n - (intOf i).toNat)
  case atStart => exact ⟨0, Nat.zero_le _, rfl, Hid.mk (fun j hj => absurd hj (Nat.not_lt_zero _)), Hid.mk (Below.refl _ _)⟩
  case round =>
    obtain ⟨k, hk, rfl, HA, HB⟩ := hrel
    by_cases hlt : k < n
    · have hlt' : (k : Int) < (n : Int) := by omega
      obtain ⟨x, rfl⟩ := HF.out.some hlt
      obtain ⟨c0, c1, c2, c3, c4, c5, c6, c7⟩ := (HF.out.kept HB.out).cell x rfl k hlt
      have hcall := HP.out wr _ HB.out ((HF.out.kept HB.out).bytes k hlt)
      have HY : Hid (∃ y, y = l.getD k noLn) := Hid.mk ⟨_, rfl⟩
      obtain ⟨y, hy⟩ := HY.out
      rw [← hy] at c0 c1 c2 c3 c4 c5 c6 c7 hcall
      have HYY := Hid.mk hy
      unfold LnR.val at hcall
      clear hy HY
      cases hq : p y with
      | true =>
        rw [hq] at hcall
        have HC := Hid.mk hcall
        have HQ := Hid.mk hq
        clear hcall hq
        go_wp2_with (go_at_fn g; refine HC.out.mono ?_; rintro e w1 ⟨rfl, hb1⟩)
        have HB1 := Hid.mk (bl2 HB.out hb1)
        clear hb1
        go_ret
        refine ⟨_, rfl, ?_, HB1.out⟩
        rw [any_hitL p (by rw [HF.out.len]; exact hlt) (by rw [← HYY.out]; exact HQ.out)]
        simp
      | false =>
        rw [hq] at hcall
        have HC := Hid.mk hcall
        have HQ := Hid.mk hq
        clear hcall hq
        go_wp2_with (go_at_fn g; refine HC.out.mono ?_; rintro e w1 ⟨rfl, hb1⟩)
        have HB1 := Hid.mk (bl2 HB.out hb1)
        clear hb1
        go_roundw
        case rel =>
          refine ⟨k + 1, by omega, by go_num, Hid.mk fun j hj => ?_, HB1⟩
          by_cases e : j = k
          · subst e; rw [← HYY.out]; exact HQ.out
          · exact HA.out j (by omega)
        case measure => simp [intOf]; omega
    · have e : k = n := by omega
      subst e
      go_wp2_with fail
      go_ret
      refine ⟨-1, rfl, ?_, HB.out⟩
      rw [any_takeL p HF.out.len HA.out]
      rfl
set_option maxHeartbeats 2000000 in
theorem containsFuncL_any (g : Nat) (lb : Array Value) (eg : ∀ args w, (callFunc g args).run Tryd.prog w = .ok (.enter g args) w) (p : LnR → Bool) (a : Option Addr) (n c : Nat) (l : List LnR) (dt : List UInt8) (w : World) (hF : IsLns w a n c l dt)
    (hp : ∀ W x, Below w.heap.size w W → IsBytes W x.a x.len x.cap dt → Calls Tryd.prog g (#[x.val] ++ lb) W fun e w' => e = .returned (.bool (p x)) ∧ Below W.heap.size W w') :
    Calls Tryd.prog 24 #[.slice a n c, .func (.func g) #[] lb] w fun e w' => e = .returned (.bool (l.any p)) ∧ Below w.heap.size w w' := by
  have HI := Hid.mk (indexFuncL_any g lb eg p a n c l dt w hF hp)
  clear hF hp eg
  go_enter Tryd.func24, Tryd.ntmps24
  go_wp2_with fail
  refine HI.out.mono ?_
  rintro e w1 ⟨r, rfl, hr, hb⟩
  have HR := Hid.mk hr
  have HB := Hid.mk hb
  clear hr hb
  go_wp2_with fail
  go_ret
  exact ⟨by rw [← HR.out]; rfl, HB.out⟩
end Bw
end Go.Proofs.YtapjiopnjfldhaaDoor
