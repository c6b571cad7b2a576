/- What tasks ask for: delay.workOf, sum and the functions that they make; delay.settle. -/
import Derived.Test.YtnhnemmddgofnaaDoorDlTakes
import Derived.Shelf.Abstract
import Derived.BigQuiet
import Derived.Lib.QuietBelow
namespace Go.Proofs.YtnhnemmddgofnaaDoor
open Go.ChangeShapes Go.WideShapes Go.ChangeAt Go.RowKit Go.Sort
namespace Bw
set_option linter.unusedVariables false
theorem enter_wk : ∀ args w, (callFunc 42 args).run Tryd.prog w = .ok (.enter 42 args) w := enters_of Tryd.func42 (by kernel_rfl) rfl
theorem enter_sm : ∀ args w, (callFunc 41 args).run Tryd.prog w = .ok (.enter 41 args) w := enters_of Tryd.func41 (by kernel_rfl) rfl
theorem enter_l1 : ∀ args w, (callFunc 38 args).run Tryd.prog w = .ok (.enter 38 args) w := enters_of Tryd.func38 (by kernel_rfl) rfl
theorem enter_l2 : ∀ args w, (callFunc 40 args).run Tryd.prog w = .ok (.enter 40 args) w := enters_of Tryd.func40 (by kernel_rfl) rfl
/-- the value of what workOf makes -/
def wkV (p q : Nat) : Value := .func (.func 42) #[] #[.pointer (some ⟨p, 0, none⟩), .pointer (some ⟨q, 0, none⟩)]
structure WkOn (w : World) (p q : Nat) (x : Tk) : Prop where
  c : w.cell? ⟨p, 0, none⟩ = some (.int .i64 (cN x : Nat))
  t : w.cell? ⟨q, 2, none⟩ = some (.int .i64 (tN x : Nat))
  j : w.cell? ⟨q, 4, none⟩ = some (.int .i64 (jN x : Nat))
theorem WkOn.kept {w w' : World} {p q : Nat} {x : Tk} (h : WkOn w p q x) (hb : Below w.heap.size w w') : WkOn w' p q x := ⟨cell_kept hb h.c, cell_kept hb h.t, cell_kept hb h.j⟩
def WkAt (w : World) (v : Value) (x : Tk) : Prop := ∃ p q, v = wkV p q ∧ WkOn w p q x
theorem WkAt.kept {w w' : World} {v : Value} {x : Tk} (h : WkAt w v x) (hb : Below w.heap.size w w') : WkAt w' v x := by
  obtain ⟨p, q, h1, h2⟩ := h
  exact ⟨p, q, h1, h2.kept hb⟩
set_option maxHeartbeats 1000000 in
theorem work1_any (x : Tk) (p q t : Nat) (w : World) (hx : okT x = true) (hW : WkOn w p q x) (ht : t ≤ 300000) :
    Calls Tryd.prog 42 #[.int .i64 t, .pointer (some ⟨p, 0, none⟩), .pointer (some ⟨q, 0, none⟩)] w fun e w' => e = .returned (.int .i64 (wkN x t : Nat)) ∧ Below w.heap.size w w' := by
  obtain ⟨q1, q2, q3, q4, q5, -⟩ := okT_n hx
  obtain ⟨g0, g1, g2⟩ := hW
  have hub := upN_le (n := t + jN x) q3
  have HUP : Hid (∀ W, Calls Tryd.prog 39 #[.int .i64 ((t : Int) + (jN x : Int)), .int .i64 (tN x : Nat)] W fun e w' => e = .returned (.int .i64 (upN (t + jN x) (tN x) : Nat)) ∧ w' = W) := Hid.mk (fun W => roundedUp_any (t + jN x) (tN x) W (by omega) q3 q4)
  unfold wkN
  have hU : ((upN (t + jN x) (tN x) : Nat) : Int) ≤ 1300000 := by omega
  generalize upN (t + jN x) (tN x) = U at *
  have hP : cN x * U ≤ 135 * 1300000 := Nat.mul_le_mul q2 (by omega)
  have hJ : (jN x : Int) ≤ 1000000 := by omega
  have hT' : (t : Int) ≤ 300000 := by omega
  generalize cN x = C at *
  generalize jN x = J at *
  generalize tN x = T at *
  have hPN : ((C * U : Nat) : Int) ≤ 175500000 := by omega
  have hPI : (C : Int) * (U : Int) ≤ 175500000 := by rw [← Int.natCast_mul]; exact hPN
  have hP0 : 0 ≤ (C : Int) * (U : Int) := by rw [← Int.natCast_mul]; omega
  have HE : Hid (((C * U : Nat) : Int) = (C : Int) * (U : Int)) := Hid.mk (Int.natCast_mul C U)
  have hC : (C : Int) ≤ 135 := by omega
  clear hx q1 q2 q3 q4 q5 hub hP ht hPN
  go_enter Tryd.func42, Tryd.ntmps42
  go_wp2_with fail
  go_quiet ((go_at_call 39; refine Calls.quiet_of_same (HUP.out _)))
  go_wp2_with fail
  go_ret
  refine ⟨?_, below_drD (Below.refl _ _) _⟩
  rw [HE.out]
  rfl
/-- what tasks ask for, as a row of functions -/
structure WksAt (w : World) (a : Option Addr) (n c : Nat) (l : List Tk) : Prop where
  len : l.length = n
  none : a = none → n = 0
  cell : ∀ x, a = some x → ∀ i, i < n → ∃ p q, w.cell? (x.add i) = some (wkV p q) ∧ WkOn w p q (l.getD i noT)
theorem WksAt.kept {w w' : World} {a : Option Addr} {n c : Nat} {l : List Tk} (h : WksAt w a n c l) (hb : Below w.heap.size w w') : WksAt w' a n c l :=
  ⟨h.len, h.none, fun x hx i hi => by obtain ⟨p, q, h1, h2⟩ := h.cell x hx i hi; exact ⟨p, q, cell_kept hb h1, h2.kept hb⟩⟩
structure SumAt (w : World) (g : Nat) (a : Option Addr) (n c : Nat) (l : List Tk) : Prop where
  var : w.cell? ⟨g, 0, none⟩ = some (.slice a n c)
  row : WksAt w a n c l
theorem SumAt.kept {w w' : World} {g : Nat} {a : Option Addr} {n c : Nat} {l : List Tk} (h : SumAt w g a n c l) (hb : Below w.heap.size w w') : SumAt w' g a n c l := ⟨cell_kept hb h.var, h.row.kept hb⟩
set_option maxHeartbeats 4000000 in
set_option maxRecDepth 100000 in
theorem sum1_any (l : List Tk) (g t : Nat) (a : Option Addr) (n c : Nat) (w : World) (hl : ∀ x ∈ l, okT x = true) (hn : n ≤ 20) (hW : SumAt w g a n c l) (ht : t ≤ 300000) :
    Calls Tryd.prog 41 #[.int .i64 t, .pointer (some ⟨g, 0, none⟩)] w fun e w' => e = .returned (.int .i64 (sumN l t : Nat)) ∧ Below w.heap.size w w' := by
  have g0 := hW.var
  have HW := Hid.mk hW.row
  have HOK := Hid.mk hl
  have HLN := Hid.mk hW.row.len
  have HTT := Hid.mk ht
  obtain ⟨Z, hZ⟩ : ∃ Z : Nat, Z = sumN l t := ⟨_, rfl⟩
  rw [← hZ]
  have HZ := Hid.mk hZ
  have eg := enter_wk
  clear hl hW hZ ht
  go_enter Tryd.func41, Tryd.ntmps41
  go_wp2_with fail
  go_loopw [4, 9] (fun s i wr => ∃ (k S : Nat), k ≤ n ∧ i = .int .i64 k ∧ s = .int .i64 S ∧ S ≤ k * 175500000 ∧ Hid (S = sumN (l.take k) t) ∧ Hid (Below w.heap.size w wr)) (fun _ i _ => n - (intOf i).toNat)
  case atStart => exact ⟨0, 0, Nat.zero_le _, rfl, rfl, Nat.le_refl _, Hid.mk rfl, Hid.mk (Below.refl _ _)⟩
  case round =>
    obtain ⟨k, S, hk, rfl, rfl, hS, HA, HB⟩ := hrel
    by_cases hlt : k < n
    · have hlt' : (k : Int) < (n : Int) := by omega
      obtain ⟨x, rfl⟩ : ∃ x, a = some x := by
        cases a with
        | none => exact absurd (HW.out.none rfl) (by omega)
        | some x => exact ⟨x, rfl⟩
      obtain ⟨p, q, c0, hon⟩ := (HW.out.kept HB.out).cell x rfl k hlt
      obtain ⟨r, hr⟩ : ∃ r, r = l.getD k noT := ⟨_, rfl⟩
      rw [← hr] at hon
      have hrok := HOK.out r (by rw [hr]; exact getD_memT (by rw [HLN.out]; exact hlt))
      have hwk := wkN_le hrok HTT.out
      have HD : Hid (S + wkN r t = sumN (l.take (k + 1)) t) := Hid.mk (by rw [HA.out, take_snocT (by rw [HLN.out]; exact hlt), sumN_snoc, hr])
      have HC := Hid.mk (work1_any r p q t wr hrok hon HTT.out)
      have HSB : S + wkN r t ≤ (k + 1) * 175500000 := by omega
      generalize wkN r t = U at *
      have hSk : (S : Int) ≤ 3510000000 := by omega
      have hU' : (U : Int) ≤ 175500000 := by omega
      unfold wkV at c0
      clear hr hrok hwk hon
      go_wp2_with (go_at_fn 42; refine HC.out.mono ?_; rintro e w1 ⟨rfl, hb1⟩)
      have HB1 := Hid.mk (bl2 HB.out hb1)
      clear hb1
      go_roundw
      case rel => exact ⟨k + 1, S + U, by omega, by go_num, by go_num, HSB, HD, HB1⟩
      case measure => simp [intOf]; omega
    · obtain rfl : k = n := by omega
      have HF : Hid (S = Z) := Hid.mk (by rw [HA.out, HZ.out, List.take_of_length_le (by rw [HLN.out]; exact Nat.le_refl _)])
      go_wp2_with fail
      go_ret
      exact ⟨by rw [HF.out]; rfl, HB.out⟩
set_option maxHeartbeats 1000000 in
theorem settle_any (g : Nat) (lb : Array Value) (eg : ∀ args w, (callFunc g args).run Tryd.prog w = .ok (.enter g args) w) (f : Nat → Nat) (t0 : Nat) (w : World) (hm : Mono f) (h0 : t0 ≤ f t0) (hb : ∀ t, t ≤ 200000 → f t ≤ 10000000000) (ht0 : t0 ≤ 10000000000)
    (hf : ∀ W t, Below w.heap.size w W → t ≤ 200000 → Calls Tryd.prog g (#[.int .i64 t] ++ lb) W fun e w' => e = .returned (.int .i64 (f t : Nat)) ∧ Below W.heap.size W w') :
    Calls Tryd.prog 37 #[.int .i64 t0, .func (.func g) #[] lb] w fun e w' => e = .returned (.tuple #[.int .i64 ((setF f t0).getD 0 : Nat), .bool (setF f t0).isSome]) ∧ Below w.heap.size w w' := by
  have HM := Hid.mk hm
  have HF := Hid.mk hf
  have HBD := Hid.mk hb
  have H0 := Hid.mk h0
  have HT0 := Hid.mk ht0
  obtain ⟨Z, hZ⟩ : ∃ Z : Option Nat, Z = setF f t0 := ⟨_, rfl⟩
  rw [← hZ]
  have HZ := Hid.mk hZ
  clear hm hf hb h0 hZ ht0
  go_enter Tryd.func37, Tryd.ntmps37
  go_wp2_with fail
  go_loopw [0] (fun i wr => ∃ (k t : Nat), i = .int .i64 t ∧ t ≤ 10000000000 ∧ 200002 ≤ k + t ∧ 1 ≤ k ∧ Hid (Z = stl f k t) ∧ Hid (t ≤ f t) ∧ Hid (Below w.heap.size w wr)) (fun i _ => 200001 - (intOf i).toNat)
  case atStart => exact ⟨200002, t0, rfl, HT0.out, by omega, by omega, Hid.mk HZ.out, H0, Hid.mk (Below.refl _ _)⟩
  case round =>
    obtain ⟨k, t, rfl, hbd, hkt, hk1, HA, HI, HB⟩ := hrel
    by_cases hlt : t ≤ 200000
    · have hlt' : (t : Int) ≤ 200000 := by omega
      have hfb := HBD.out t hlt
      have hfi := HI.out
      by_cases he : f t = t
      · have HC := Hid.mk (HF.out wr t HB.out hlt)
        rw [he] at HC
        have HE : Hid (Z = some t) := Hid.mk (by rw [HA.out, stl_here hk1 hlt he])
        clear he hfb hfi hkt hk1
        go_wp2_with (go_at_fn g; refine HC.out.mono ?_; rintro e w1 ⟨rfl, hb1⟩)
        have HB1 := Hid.mk (bl2 HB.out hb1)
        clear hb1
        go_ret2
        exact ⟨by rw [HE.out]; rfl, HB1.out⟩
      · have HC := Hid.mk (HF.out wr t HB.out hlt)
        have HE : Hid (Z = stl f (k - 1) (f t)) := Hid.mk (by rw [HA.out, stl_more hk1 hlt he])
        have HI2 : Hid (f t ≤ f (f t)) := Hid.mk (HM.out _ _ HI.out)
        generalize f t = U at *
        have hne : ((U : Int) == (t : Int)) = false := by simp; omega
        have hU : (U : Int) ≤ 10000000000 := by omega
        have hgt : t < U := by omega
        clear he
        go_wp2_with (go_at_fn g; refine HC.out.mono ?_; rintro e w1 ⟨rfl, hb1⟩)
        have HB1 := Hid.mk (bl2 HB.out hb1)
        clear hb1
        go_roundw
        case rel => exact ⟨k - 1, U, rfl, hfb, by omega, by omega, HE, HI2, HB1⟩
        case measure => simp [intOf]; omega
    · have hlt' : ¬ ((t : Int) ≤ 200000) := by omega
      have HE : Hid (Z = none) := Hid.mk (by rw [HA.out, stl_over (by omega)])
      go_wp2_with fail
      go_ret2
      exact ⟨by rw [HE.out]; rfl, HB.out⟩
end Bw
end Go.Proofs.YtnhnemmddgofnaaDoor
