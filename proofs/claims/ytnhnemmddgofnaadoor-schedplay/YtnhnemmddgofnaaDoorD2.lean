/- What delay.longestWait answers. -/
import Derived.Test.YtnhnemmddgofnaaDoorDlTakes
import Derived.Shelf.Abstract
import Derived.BigQuiet
import Derived.Lib.QuietBelow
import Derived.Test.YtnhnemmddgofnaaDoorC5
import Derived.Deep.RegionHeld3
import Derived.Deep.DeepCutAuto
namespace Go.Proofs.YtnhnemmddgofnaaDoor
open Go.ChangeShapes Go.WideShapes Go.ChangeAt Go.RowKit Go.Sort
namespace Bw
set_option linter.unusedVariables false
theorem enter_wk : ∀ args w, (callFunc 42 args).run Tryd.prog w = .ok (.enter 42 args) w := enters_of Tryd.func42 (by kernel_rfl) rfl
theorem enter_sm : ∀ args w, (callFunc 41 args).run Tryd.prog w = .ok (.enter 41 args) w := enters_of Tryd.func41 (by kernel_rfl) rfl
theorem enter_l1 : ∀ args w, (callFunc 38 args).run Tryd.prog w = .ok (.enter 38 args) w := enters_of Tryd.func38 (by kernel_rfl) rfl
theorem enter_l2 : ∀ args w, (callFunc 40 args).run Tryd.prog w = .ok (.enter 40 args) w := enters_of Tryd.func40 (by kernel_rfl) rfl
/-- the value of what workOf makes -/
def wkV (p q : Nat) : Value := .func (.func 42) #[] #[.pointer (some ⟨p, 0, none⟩), .pointer (some ⟨q, 0, none⟩)]
structure WkOn (w : World) (p q : Nat) (x : Tk) : Prop where
  c : w.cell? ⟨p, 0, none⟩ = some (.int .i64 (cN x : Nat))
  t : w.cell? ⟨q, 2, none⟩ = some (.int .i64 (tN x : Nat))
  j : w.cell? ⟨q, 4, none⟩ = some (.int .i64 (jN x : Nat))
theorem WkOn.kept {w w' : World} {p q : Nat} {x : Tk} (h : WkOn w p q x) (hb : Below w.heap.size w w') : WkOn w' p q x := ⟨cell_kept hb h.c, cell_kept hb h.t, cell_kept hb h.j⟩
def WkAt (w : World) (v : Value) (x : Tk) : Prop := ∃ p q, v = wkV p q ∧ WkOn w p q x
theorem WkAt.kept {w w' : World} {v : Value} {x : Tk} (h : WkAt w v x) (hb : Below w.heap.size w w') : WkAt w' v x := by
  obtain ⟨p, q, h1, h2⟩ := h
  exact ⟨p, q, h1, h2.kept hb⟩
set_option maxHeartbeats 1000000 in
theorem work1_any (x : Tk) (p q t : Nat) (w : World) (hx : okT x = true) (hW : WkOn w p q x) (ht : t ≤ 300000) :
    Calls Tryd.prog 42 #[.int .i64 t, .pointer (some ⟨p, 0, none⟩), .pointer (some ⟨q, 0, none⟩)] w fun e w' => e = .returned (.int .i64 (wkN x t : Nat)) ∧ Below w.heap.size w w' := by
  obtain ⟨q1, q2, q3, q4, q5, -⟩ := okT_n hx
  obtain ⟨g0, g1, g2⟩ := hW
  have hub := upN_le (n := t + jN x) q3
  have HUP : Hid (∀ W, Calls Tryd.prog 39 #[.int .i64 ((t : Int) + (jN x : Int)), .int .i64 (tN x : Nat)] W fun e w' => e = .returned (.int .i64 (upN (t + jN x) (tN x) : Nat)) ∧ w' = W) := Hid.mk (fun W => roundedUp_any (t + jN x) (tN x) W (by omega) q3 q4)
  unfold wkN
  have hU : ((upN (t + jN x) (tN x) : Nat) : Int) ≤ 1300000 := by omega
  generalize upN (t + jN x) (tN x) = U at *
  have hP : cN x * U ≤ 135 * 1300000 := Nat.mul_le_mul q2 (by omega)
  have hJ : (jN x : Int) ≤ 1000000 := by omega
  have hT' : (t : Int) ≤ 300000 := by omega
  generalize cN x = C at *
  generalize jN x = J at *
  generalize tN x = T at *
  have hPN : ((C * U : Nat) : Int) ≤ 175500000 := by omega
  have hPI : (C : Int) * (U : Int) ≤ 175500000 := by rw [← Int.natCast_mul]; exact hPN
  have hP0 : 0 ≤ (C : Int) * (U : Int) := by rw [← Int.natCast_mul]; omega
  have HE : Hid (((C * U : Nat) : Int) = (C : Int) * (U : Int)) := Hid.mk (Int.natCast_mul C U)
  have hC : (C : Int) ≤ 135 := by omega
  clear hx q1 q2 q3 q4 q5 hub hP ht hPN
  go_enter Tryd.func42, Tryd.ntmps42
  go_wp2_with fail
  go_quiet ((go_at_call 39; refine Calls.quiet_of_same (HUP.out _)))
  go_wp2_with fail
  go_ret
  refine ⟨?_, below_drD (Below.refl _ _) _⟩
  rw [HE.out]
  rfl
/-- what tasks ask for, as a row of functions -/
structure WksAt (w : World) (a : Option Addr) (n c : Nat) (l : List Tk) : Prop where
  len : l.length = n
  none : a = none → n = 0
  cell : ∀ x, a = some x → ∀ i, i < n → ∃ p q, w.cell? (x.add i) = some (wkV p q) ∧ WkOn w p q (l.getD i noT)
theorem WksAt.kept {w w' : World} {a : Option Addr} {n c : Nat} {l : List Tk} (h : WksAt w a n c l) (hb : Below w.heap.size w w') : WksAt w' a n c l :=
  ⟨h.len, h.none, fun x hx i hi => by obtain ⟨p, q, h1, h2⟩ := h.cell x hx i hi; exact ⟨p, q, cell_kept hb h1, h2.kept hb⟩⟩
structure SumAt (w : World) (g : Nat) (a : Option Addr) (n c : Nat) (l : List Tk) : Prop where
  var : w.cell? ⟨g, 0, none⟩ = some (.slice a n c)
  row : WksAt w a n c l
theorem SumAt.kept {w w' : World} {g : Nat} {a : Option Addr} {n c : Nat} {l : List Tk} (h : SumAt w g a n c l) (hb : Below w.heap.size w w') : SumAt w' g a n c l := ⟨cell_kept hb h.var, h.row.kept hb⟩
set_option maxHeartbeats 4000000 in
set_option maxRecDepth 100000 in
theorem sum1_any (l : List Tk) (g t : Nat) (a : Option Addr) (n c : Nat) (w : World) (hl : ∀ x ∈ l, okT x = true) (hn : n ≤ 20) (hW : SumAt w g a n c l) (ht : t ≤ 300000) :
    Calls Tryd.prog 41 #[.int .i64 t, .pointer (some ⟨g, 0, none⟩)] w fun e w' => e = .returned (.int .i64 (sumN l t : Nat)) ∧ Below w.heap.size w w' := by
  have g0 := hW.var
  have HW := Hid.mk hW.row
  have HOK := Hid.mk hl
  have HLN := Hid.mk hW.row.len
  have HTT := Hid.mk ht
  obtain ⟨Z, hZ⟩ : ∃ Z : Nat, Z = sumN l t := ⟨_, rfl⟩
  rw [← hZ]
  have HZ := Hid.mk hZ
  have eg := enter_wk
  clear hl hW hZ ht
  go_enter Tryd.func41, Tryd.ntmps41
  go_wp2_with fail
  go_loopw [4, 9] (fun s i wr => ∃ (k S : Nat), k ≤ n ∧ i = .int .i64 k ∧ s = .int .i64 S ∧ S ≤ k * 175500000 ∧ Hid (S = sumN (l.take k) t) ∧ Hid (Below w.heap.size w wr)) (fun _ i _ => n - (intOf i).toNat)
  case atStart => exact ⟨0, 0, Nat.zero_le _, rfl, rfl, Nat.le_refl _, Hid.mk rfl, Hid.mk (Below.refl _ _)⟩
  case round =>
    obtain ⟨k, S, hk, rfl, rfl, hS, HA, HB⟩ := hrel
    by_cases hlt : k < n
    · have hlt' : (k : Int) < (n : Int) := by omega
      obtain ⟨x, rfl⟩ : ∃ x, a = some x := by
        cases a with
        | none => exact absurd (HW.out.none rfl) (by omega)
        | some x => exact ⟨x, rfl⟩
      obtain ⟨p, q, c0, hon⟩ := (HW.out.kept HB.out).cell x rfl k hlt
      obtain ⟨r, hr⟩ : ∃ r, r = l.getD k noT := ⟨_, rfl⟩
      rw [← hr] at hon
      have hrok := HOK.out r (by rw [hr]; exact getD_memT (by rw [HLN.out]; exact hlt))
      have hwk := wkN_le hrok HTT.out
      have HD : Hid (S + wkN r t = sumN (l.take (k + 1)) t) := Hid.mk (by rw [HA.out, take_snocT (by rw [HLN.out]; exact hlt), sumN_snoc, hr])
      have HC := Hid.mk (work1_any r p q t wr hrok hon HTT.out)
      have HSB : S + wkN r t ≤ (k + 1) * 175500000 := by omega
      generalize wkN r t = U at *
      have hSk : (S : Int) ≤ 3510000000 := by omega
      have hU' : (U : Int) ≤ 175500000 := by omega
      unfold wkV at c0
      clear hr hrok hwk hon
      go_wp2_with (go_at_fn 42; refine HC.out.mono ?_; rintro e w1 ⟨rfl, hb1⟩)
      have HB1 := Hid.mk (bl2 HB.out hb1)
      clear hb1
      go_roundw
      case rel => exact ⟨k + 1, S + U, by omega, by go_num, by go_num, HSB, HD, HB1⟩
      case measure => simp [intOf]; omega
    · obtain rfl : k = n := by omega
      have HF : Hid (S = Z) := Hid.mk (by rw [HA.out, HZ.out, List.take_of_length_le (by rw [HLN.out]; exact Nat.le_refl _)])
      go_wp2_with fail
      go_ret
      exact ⟨by rw [HF.out]; rfl, HB.out⟩
set_option maxHeartbeats 1000000 in
theorem settle_any (g : Nat) (lb : Array Value) (eg : ∀ args w, (callFunc g args).run Tryd.prog w = .ok (.enter g args) w) (f : Nat → Nat) (t0 : Nat) (w : World) (hm : Mono f) (h0 : t0 ≤ f t0) (hb : ∀ t, t ≤ 200000 → f t ≤ 10000000000) (ht0 : t0 ≤ 10000000000)
    (hf : ∀ W t, Below w.heap.size w W → t ≤ 200000 → Calls Tryd.prog g (#[.int .i64 t] ++ lb) W fun e w' => e = .returned (.int .i64 (f t : Nat)) ∧ Below W.heap.size W w') :
    Calls Tryd.prog 37 #[.int .i64 t0, .func (.func g) #[] lb] w fun e w' => e = .returned (.tuple #[.int .i64 ((setF f t0).getD 0 : Nat), .bool (setF f t0).isSome]) ∧ Below w.heap.size w w' := by
  have HM := Hid.mk hm
  have HF := Hid.mk hf
  have HBD := Hid.mk hb
  have H0 := Hid.mk h0
  have HT0 := Hid.mk ht0
  obtain ⟨Z, hZ⟩ : ∃ Z : Option Nat, Z = setF f t0 := ⟨_, rfl⟩
  rw [← hZ]
  have HZ := Hid.mk hZ
  clear hm hf hb h0 hZ ht0
  go_enter Tryd.func37, Tryd.ntmps37
  go_wp2_with fail
  go_loopw [0] (fun i wr => ∃ (k t : Nat), i = .int .i64 t ∧ t ≤ 10000000000 ∧ 200002 ≤ k + t ∧ 1 ≤ k ∧ Hid (Z = stl f k t) ∧ Hid (t ≤ f t) ∧ Hid (Below w.heap.size w wr)) (fun i _ => 200001 - (intOf i).toNat)
  case atStart => exact ⟨200002, t0, rfl, HT0.out, by omega, by omega, Hid.mk HZ.out, H0, Hid.mk (Below.refl _ _)⟩
  case round =>
    obtain ⟨k, t, rfl, hbd, hkt, hk1, HA, HI, HB⟩ := hrel
    by_cases hlt : t ≤ 200000
    · have hlt' : (t : Int) ≤ 200000 := by omega
      have hfb := HBD.out t hlt
      have hfi := HI.out
      by_cases he : f t = t
      · have HC := Hid.mk (HF.out wr t HB.out hlt)
        rw [he] at HC
        have HE : Hid (Z = some t) := Hid.mk (by rw [HA.out, stl_here hk1 hlt he])
        clear he hfb hfi hkt hk1
        go_wp2_with (go_at_fn g; refine HC.out.mono ?_; rintro e w1 ⟨rfl, hb1⟩)
        have HB1 := Hid.mk (bl2 HB.out hb1)
        clear hb1
        go_ret2
        exact ⟨by rw [HE.out]; rfl, HB1.out⟩
      · have HC := Hid.mk (HF.out wr t HB.out hlt)
        have HE : Hid (Z = stl f (k - 1) (f t)) := Hid.mk (by rw [HA.out, stl_more hk1 hlt he])
        have HI2 : Hid (f t ≤ f (f t)) := Hid.mk (HM.out _ _ HI.out)
        generalize f t = U at *
        have hne : ((U : Int) == (t : Int)) = false := by simp; omega
        have hU : (U : Int) ≤ 10000000000 := by omega
        have hgt : t < U := by omega
        clear he
        go_wp2_with (go_at_fn g; refine HC.out.mono ?_; rintro e w1 ⟨rfl, hb1⟩)
        have HB1 := Hid.mk (bl2 HB.out hb1)
        clear hb1
        go_roundw
        case rel => exact ⟨k - 1, U, rfl, hfb, by omega, by omega, HE, HI2, HB1⟩
        case measure => simp [intOf]; omega
    · have hlt' : ¬ ((t : Int) ≤ 200000) := by omega
      have HE : Hid (Z = none) := Hid.mk (by rw [HA.out, stl_over (by omega)])
      go_wp2_with fail
      go_ret2
      exact ⟨by rw [HE.out]; rfl, HB.out⟩
end Bw
end Go.Proofs.YtnhnemmddgofnaaDoor
namespace Go.Proofs.YtnhnemmddgofnaaDoor
open Go.ChangeShapes Go.WideShapes Go.ChangeAt Go.RowKit Go.Sort
namespace Bw
set_option linter.unusedVariables false
set_option maxHeartbeats 1000000 in
theorem workOf_any (x : Tk) (w : World) (hx : okT x = true) (hS : SizesAt w) (hR : RulesAt w) :
    Calls Tryd.prog 27 #[x.val] w fun e w' => ∃ p q, e = .returned (wkV p q) ∧ WkOn w' p q x ∧ w.heap.size ≤ p ∧ w.heap.size ≤ q ∧ p < w'.heap.size ∧ q < w'.heap.size ∧ Below w.heap.size w w' := by
  obtain ⟨q1, q2, q3, q4, q5, q6, q7, -⟩ := okT_n hx
  have hb := awD w (tkC x)
  have HB := Hid.mk hb
  have HV := Hid.mk (TkAt.new w x)
  have HC := Hid.mk (takes_any x (w.alloc (tkC x)) hx (hS.kept hb) (hR.kept hb))
  have HEV := Hid.mk q6
  have HJI := Hid.mk q7
  obtain ⟨C, hC⟩ : ∃ C : Nat, C = cN x := ⟨_, rfl⟩
  rw [← hC] at HC
  have HCC := Hid.mk hC
  obtain ⟨g0, g1, g2, g3, g4⟩ := HV.out
  clear hb hS hR hx q1 q2 q3 q4 q5 q6 q7 hC
  unfold tkC at HB HV HC g0 g1 g2 g3 g4
  unfold Tk.val at *
  go_enter Tryd.func27, Tryd.ntmps27
  go_wp2_with fail
  refine HC.out.mono ?_
  rintro e w1 ⟨rfl, hb1⟩
  have HB1 := Hid.mk (bl2 HB.out hb1)
  have HV1 := Hid.mk (HV.out.kept hb1)
  have HSZ := Hid.mk hb1.size
  clear hb1 HC HB g0 g1 g2 g3 g4
  go_wp2_with fail
  go_ret
  have hw : (w.alloc (.cells #[.int .i64 x.id, .int .i64 x.by_, .int .i64 x.ev, .int .i64 x.la, .int .i64 x.ji] 31)).heap.size = w.heap.size + 1 := Array.size_push _
  have h1 := HSZ.out
  rw [hw] at h1
  have hb2 := awD w1 (.cells #[.int .i64 (C : Nat)] 3)
  have hs2 : (w1.alloc (.cells #[.int .i64 (C : Nat)] 3)).heap.size = w1.heap.size + 1 := Array.size_push _
  refine ⟨w1.heap.size, w.heap.size, rfl, ⟨?_, ?_, ?_⟩, by omega, Nat.le_refl _, by omega, by omega, bl2 HB1.out hb2⟩
  · rw [← HCC.out]
    exact cell_of_row _ _ 0 _ _ _ (heap_alloc_new w1 _)
  · have := cell_kept hb2 HV1.out.c2
    rw [HEV.out] at this
    exact this
  · have := cell_kept hb2 HV1.out.c4
    rw [HJI.out] at this
    exact this
/-- the value of what sum makes -/
def smV (g : Nat) : Value := .func (.func 41) #[] #[.pointer (some ⟨g, 0, none⟩)]
set_option maxHeartbeats 1000000 in
theorem sum_any (a : Option Addr) (n c : Nat) (l : List Tk) (w : World) (hW : WksAt w a n c l) :
    Calls Tryd.prog 26 #[.slice a n c] w fun e w' => ∃ g, e = .returned (smV g) ∧ SumAt w' g a n c l ∧ Below w.heap.size w w' := by
  have HW := Hid.mk hW
  clear hW
  go_enter Tryd.func26, Tryd.ntmps26
  go_wp2_with fail
  go_ret
  have hb := awD w (.cells #[.slice a n c] 63)
  exact ⟨w.heap.size, rfl, ⟨cell_of_row _ _ 0 _ _ _ (heap_alloc_new w _), HW.out.kept hb⟩, hb⟩
set_option maxHeartbeats 4000000 in
set_option maxRecDepth 100000 in
theorem most_any' (a : Option Addr) (n c : Nat) (l : List Tk) (w : World) (hT : IsTks w a n c l) (hok : ∀ x ∈ l, okT x = true) (hS : SizesAt w) (hR : RulesAt w) :
    Calls Tryd.prog 25 #[.slice a n c] w fun e w' => e = .returned (.int .i64 (mostT l : Nat)) ∧ Below w.heap.size w w' := by
  have hn63 := mlenD (Nat.le_trans hT.le hT.max)
  have HOK := Hid.mk hok
  have HT := Hid.mk hT
  have HS := Hid.mk hS
  have HR := Hid.mk hR
  have HLN := Hid.mk hT.len
  obtain ⟨Z, hZ⟩ : ∃ Z : Nat, Z = mostT l := ⟨_, rfl⟩
  rw [← hZ]
  have HZ := Hid.mk hZ
  clear hT hok hS hR hZ
  go_enter Tryd.func25, Tryd.ntmps25
  go_wp2_with fail
  go_loopw [3, 8] (fun s i wr => ∃ (k S : Nat), k ≤ n ∧ i = .int .i64 k ∧ s = .int .i64 S ∧ S ≤ 135 ∧ Hid (S = mostT (l.take k)) ∧ Hid (Below w.heap.size w wr)) (fun _ i _ => n - (intOf i).toNat)
  case atStart => exact ⟨0, 0, Nat.zero_le _, rfl, rfl, by omega, Hid.mk rfl, Hid.mk (Below.refl _ _)⟩
  case round =>
    obtain ⟨k, S, hk, rfl, rfl, hS, HA, HB⟩ := hrel
    by_cases hlt : k < n
    · have hlt' : (k : Int) < (n : Int) := by omega
      obtain ⟨x, rfl⟩ := HT.out.some hlt
      obtain ⟨c0, c1, c2, c3, c4⟩ := (HT.out.kept HB.out).cell x rfl k hlt
      obtain ⟨r, hr⟩ : ∃ r, r = l.getD k noT := ⟨_, rfl⟩
      rw [← hr] at c0 c1 c2 c3 c4
      have hrok := HOK.out r (by rw [hr]; exact getD_memT (by rw [HLN.out]; exact hlt))
      obtain ⟨q1, q2, -⟩ := okT_n hrok
      have HD : Hid (max S (cN r) = mostT (l.take (k + 1))) := Hid.mk (by rw [HA.out, take_snocT (by rw [HLN.out]; exact hlt), mostT_snoc, hr])
      have hb1 := awD wr (tkC r)
      have HB1 := Hid.mk (bl2 HB.out hb1)
      have HTK := Hid.mk (takes_any r (wr.alloc (tkC r)) hrok ((HS.out.kept HB.out).kept hb1) ((HR.out.kept HB.out).kept hb1))
      have HV := Hid.mk (TkAt.new wr r)
      obtain ⟨g0, g1, g2, g3, g4⟩ := HV.out
      clear hr hb1 hrok HV
      obtain ⟨id, by_, ev, la, ji⟩ := r
      generalize cN ⟨id, by_, ev, la, ji⟩ = C at *
      have hC : (C : Int) ≤ 135 := by omega
      have hSk : (S : Int) ≤ 135 := by omega
      unfold tkC at HB1 HTK g0 g1 g2 g3 g4
      unfold Tk.val at HTK
      simp only at c0 c1 c2 c3 c4 HB1 HTK g0 g1 g2 g3 g4
      go_wp2_with fail
      refine HTK.out.mono ?_
      rintro e w1 ⟨rfl, hb1⟩
      have HB2 := Hid.mk (bl2 HB1.out hb1)
      clear hb1 HB1 g0 g1 g2 g3 g4 c0 c1 c2 c3 c4 HTK
      rcases Nat.lt_or_ge S C with hmx | hmx
      · have hmx' : (S : Int) < (C : Int) := by omega
        have HE : Hid (C = mostT (l.take (k + 1))) := Hid.mk (by rw [← HD.out]; omega)
        go_wp2_with fail
        go_roundw
        case rel => exact ⟨k + 1, C, by omega, by go_num, by first | rfl | (apply int_eq; omega), by omega, HE, HB2⟩
        case measure => simp [intOf]; omega
      · have hmx' : ¬ ((S : Int) < (C : Int)) := by omega
        have hmx2 : (C : Int) ≤ (S : Int) := by omega
        have HE : Hid (S = mostT (l.take (k + 1))) := Hid.mk (by rw [← HD.out]; omega)
        go_wp2_with fail
        go_roundw
        case rel => exact ⟨k + 1, S, by omega, by go_num, by first | rfl | (apply int_eq; omega), by omega, HE, HB2⟩
        case measure => simp [intOf]; omega
    · obtain rfl : k = n := by omega
      have HF : Hid (S = Z) := Hid.mk (by rw [HA.out, HZ.out, List.take_of_length_le (by rw [HLN.out]; exact Nat.le_refl _)])
      go_wp2_with fail
      go_ret
      exact ⟨by rw [HF.out]; rfl, HB.out⟩
/-- what the first function inside longestWait reads -/
structure L1At (w : World) (gb go ga : Nat) (b : Nat) (x : Tk) (l : List Tk) : Prop where
  b : w.cell? ⟨gb, 0, none⟩ = some (.int .i64 b)
  o : ∃ p q, w.cell? ⟨go, 0, none⟩ = some (wkV p q) ∧ WkOn w p q x
  a : ∃ g a n c, w.cell? ⟨ga, 0, none⟩ = some (smV g) ∧ SumAt w g a n c l
theorem L1At.kept {w w' : World} {gb go ga : Nat} {b : Nat} {x : Tk} {l : List Tk} (h : L1At w gb go ga b x l) (hb : Below w.heap.size w w') : L1At w' gb go ga b x l := by
  obtain ⟨h1, ⟨p, q, h2, h3⟩, ⟨g, a, n, c, h4, h5⟩⟩ := h
  exact ⟨cell_kept hb h1, ⟨p, q, cell_kept hb h2, h3.kept hb⟩, ⟨g, a, n, c, cell_kept hb h4, h5.kept hb⟩⟩
theorem bF_le {b : Nat} {x : Tk} {l : List Tk} (hb : b ≤ 135) (hx : okT x = true) (hl : ∀ y ∈ l, okT y = true) (hn : l.length ≤ 20) {t : Nat} (ht : t ≤ 300000) : wkN x t ≤ 175500000 ∧ sumN l t ≤ 3510000000 ∧ bF b x l t ≤ 10000000000 := by
  have h1 := wkN_le hx ht
  have h2 := sumN_le hl ht
  have h3 : l.length * (135 * (300000 + 1000000)) ≤ 20 * (135 * (300000 + 1000000)) := Nat.mul_le_mul_right _ hn
  unfold bF
  omega
set_option maxHeartbeats 2000000 in
set_option maxRecDepth 100000 in
theorem wait1_any (gb go ga b t : Nat) (x : Tk) (l : List Tk) (w : World) (hL : L1At w gb go ga b x l) (hb : b ≤ 135) (hx : okT x = true) (hl : ∀ y ∈ l, okT y = true) (hn : l.length ≤ 20) (ht : t ≤ 300000) :
    Calls Tryd.prog 38 #[.int .i64 t, .pointer (some ⟨gb, 0, none⟩), .pointer (some ⟨go, 0, none⟩), .pointer (some ⟨ga, 0, none⟩)] w fun e w' => e = .returned (.int .i64 (bF b x l t : Nat)) ∧ Below w.heap.size w w' := by
  obtain ⟨m1, m2, m3⟩ := bF_le hb hx hl hn ht
  obtain ⟨h1, ⟨p, q, h2, h3⟩, ⟨g, a, n, c, h4, h5⟩⟩ := hL
  have hnn : n ≤ 20 := by have := h5.row.len; omega
  have r1 := fun d os => cell_kept (below_regrown w d os) h1
  have r2 := fun d os => cell_kept (below_regrown w d os) h2
  have r3 := fun d os => cell_kept (below_regrown w d os) h4
  have HW := Hid.mk (fun d os => work1_any x p q t _ hx (h3.kept (below_regrown w d os)) ht)
  have HM := Hid.mk (fun d os => sum1_any l g t a n c _ hl hnn (h5.kept (below_regrown w d os)) ht)
  unfold wkV at r2
  unfold smV at r3
  unfold bF at m3 ⊢
  generalize wkN x t = X at *
  generalize sumN l t = Y at *
  have e1 := enter_wk
  have e2 := enter_sm
  have b1 : (b : Int) ≤ 135 := by omega
  have b2 : (X : Int) ≤ 175500000 := by omega
  have b3 : (Y : Int) ≤ 3510000000 := by omega
  clear hx hl hn ht h1 h2 h3 h4 h5 hb m1 m2 m3
  go_enter Tryd.func38, Tryd.ntmps38
  go_wp2_with fail
  refine wp_region_quiet_below (by kernel_rfl) (by kernel_rfl) ?_
  repeat (go_big_quiet_step (first | (go_at_fn 42; with_reducible_and_instances exact Calls.regrown_of (HW.out _ _)) | (go_at_fn 41; with_reducible_and_instances exact Calls.regrown_of (HM.out _ _))))
  refine wpQuiet_nil ?_
  intro _ hw'
  obtain ⟨⟨dq, osq⟩, hw''⟩ := hw'
  have HB := Hid.mk (below_regrown w dq osq)
  rw [hw'']
  clear r1 r2 r3 HW HM hw''
  generalize Go.Sort.grow (redrawn w dq) osq = W2 at *
  go_wp2_with fail
  go_ret
  refine ⟨?_, HB.out⟩
  have e : ((b + X + Y : Nat) : Int) = (b : Int) + (X : Int) + (Y : Int) := by omega
  rw [e]
  rfl
set_option maxHeartbeats 2000000 in
set_option maxRecDepth 100000 in
theorem wait2_any (gd ga d t : Nat) (l : List Tk) (w : World) (hd : w.cell? ⟨gd, 0, none⟩ = some (.int .i64 d)) (hA : ∃ g a n c, w.cell? ⟨ga, 0, none⟩ = some (smV g) ∧ SumAt w g a n c l) (hd2 : d ≤ 1000000000) (hl : ∀ y ∈ l, okT y = true) (hn : l.length ≤ 20) (ht : t ≤ 200000) :
    Calls Tryd.prog 40 #[.int .i64 t, .pointer (some ⟨gd, 0, none⟩), .pointer (some ⟨ga, 0, none⟩)] w fun e w' => e = .returned (.int .i64 (d + sumN l (t + 1) : Nat)) ∧ Below w.heap.size w w' := by
  obtain ⟨g, a, n, c, h4, h5⟩ := hA
  have hnn : n ≤ 20 := by have := h5.row.len; omega
  have m2 : sumN l (t + 1) ≤ 3510000000 := by
    have h2 := sumN_le hl (show t + 1 ≤ 300000 by omega)
    have h3 : l.length * (135 * (300000 + 1000000)) ≤ 20 * (135 * (300000 + 1000000)) := Nat.mul_le_mul_right _ hn
    omega
  have r1 := fun d os => cell_kept (below_regrown w d os) hd
  have r3 := fun d os => cell_kept (below_regrown w d os) h4
  have HM : Hid (∀ d os, Calls Tryd.prog 41 #[.int .i64 ((t : Int) + 1), .pointer (some ⟨g, 0, none⟩)] (grow (redrawn w d) os) fun e w' => e = .returned (.int .i64 (sumN l (t + 1) : Nat)) ∧ Below (grow (redrawn w d) os).heap.size (grow (redrawn w d) os) w') := Hid.mk (fun d os => sum1_any l g (t + 1) a n c _ hl hnn (h5.kept (below_regrown w d os)) (by omega))
  unfold smV at r3
  generalize sumN l (t + 1) = Y at *
  have e2 := enter_sm
  have b1 : (d : Int) ≤ 1000000000 := by omega
  have b2 : (t : Int) ≤ 200000 := by omega
  have b3 : (Y : Int) ≤ 3510000000 := by omega
  clear hl hn ht h4 h5 hd hd2 m2
  go_enter Tryd.func40, Tryd.ntmps40
  go_wp2_with fail
  refine wp_region_quiet_below (by kernel_rfl) (by kernel_rfl) ?_
  repeat (go_big_quiet_step ((go_at_fn 41; with_reducible_and_instances exact Calls.regrown_of (HM.out _ _))))
  refine wpQuiet_nil ?_
  intro _ hw'
  obtain ⟨⟨dq, osq⟩, hw''⟩ := hw'
  have HB := Hid.mk (below_regrown w dq osq)
  rw [hw'']
  clear r1 r3 HM hw''
  generalize Go.Sort.grow (redrawn w dq) osq = W2 at *
  go_wp2_with fail
  go_ret
  refine ⟨?_, HB.out⟩
  have e : ((d + Y : Nat) : Int) = (d : Int) + (Y : Int) := by omega
  rw [e]
  rfl
end Bw
end Go.Proofs.YtnhnemmddgofnaaDoor
namespace Go.Proofs.YtnhnemmddgofnaaDoor
open Go.ChangeShapes Go.WideShapes Go.ChangeAt Go.RowKit Go.Sort
namespace Bw
set_option linter.unusedVariables false
theorem allocS (w : World) (o : Obj) : (w.alloc o).heap.size = w.heap.size + 1 := Array.size_push _
theorem cell_heapD {w w' : World} {a : Addr} (h : w'.heap[a.block]? = w.heap[a.block]?) : w'.cell? a = w.cell? a := by unfold World.cell?; rw [h]
theorem WkOn.set {w : World} {p q : Nat} {x : Tk} (h : WkOn w p q x) {g i : Nat} (hp : p ≠ g) (hq : q ≠ g) (v : Value) : WkOn (w.setCell ⟨g, i, none⟩ v) p q x := by
  have e1 : ∀ (k j : Nat), k ≠ g → (w.setCell ⟨g, i, none⟩ v).cell? ⟨k, j, none⟩ = w.cell? ⟨k, j, none⟩ := fun k j hk => cell_heapD (Below.heap_setCell _ _ _ _ hk)
  exact ⟨by rw [e1 _ _ hp]; exact h.c, by rw [e1 _ _ hq]; exact h.t, by rw [e1 _ _ hq]; exact h.j⟩
theorem TkAt.all {w : World} {g : Nat} {r : Tk} (h : TkAt w g r) : w.cell? ⟨g, 0, none⟩ = some (.int .i64 r.id) ∧ w.cell? ⟨g, 1, none⟩ = some (.int .i64 r.by_) ∧ w.cell? ⟨g, 2, none⟩ = some (.int .i64 r.ev) ∧ w.cell? ⟨g, 3, none⟩ = some (.int .i64 r.la) ∧ w.cell? ⟨g, 4, none⟩ = some (.int .i64 r.ji) := ⟨h.c0, h.c1, h.c2, h.c3, h.c4⟩
theorem drewBD (w : World) : Below w.heap.size w w.drew := ⟨rfl, rfl, rfl, Nat.le_refl _, fun _ _ => rfl⟩
theorem adrewBD (w : World) (o : Obj) : Below w.heap.size w (w.alloc o).drew := bl2 (awD w o) (drewBD _)
theorem boxNew (w : World) (v : Value) (t : TypeId) : BoxAt (w.alloc (.cells #[v] t)) w.heap.size t v := heap_alloc_new w _
theorem store_fnD (w : World) (f : Nat) (lb : Array Value) (t : TypeId) : (store ⟨w.heap.size, 0, none⟩ (.func (.func f) #[] lb)).run Tryd.prog (w.alloc (.cells #[.nilFunc] t)) = .ok () (w.alloc (.cells #[.func (.func f) #[] lb] t)) := by
  rw [run_store _ _ _ _ _ rfl]
  simp [go_sem]
theorem store_fnG {w : World} {g : Nat} {t : TypeId} {v : Value} (h : BoxAt w g t v) (f : Nat) (lb : Array Value) : (store ⟨g, 0, none⟩ (.func (.func f) #[] lb)).run Tryd.prog w = .ok () (w.setCell ⟨g, 0, none⟩ (.func (.func f) #[] lb)) := by
  rw [run_store _ _ _ _ _ rfl]
  have h1 := h.cell
  have h2 := h.frozen
  simp [go_sem, h1, h2]
theorem TkAt.set {w : World} {k : Nat} {x : Tk} (h : TkAt w k x) {g i : Nat} (hk : k ≠ g) (v : Value) : TkAt (w.setCell ⟨g, i, none⟩ v) k x := by
  have e1 : ∀ j, (w.setCell ⟨g, i, none⟩ v).cell? ⟨k, j, none⟩ = w.cell? ⟨k, j, none⟩ := fun j => cell_heapD (Below.heap_setCell _ _ _ _ hk)
  exact ⟨by rw [e1]; exact h.c0, by rw [e1]; exact h.c1, by rw [e1]; exact h.c2, by rw [e1]; exact h.c3, by rw [e1]; exact h.c4⟩
theorem new_drew (w : World) (o : Obj) : (w.alloc o).drew.heap[w.heap.size]? = (w.alloc o).heap[w.heap.size]? := rfl
theorem below_upN {q n d : Nat} (hd : 1 ≤ d) (h : q < upN n d) : q * d + 1 ≤ n := by
  unfold upN at h
  have h1 : (q + 1) * d ≤ n + d - 1 := (Nat.le_div_iff_mul_le (by omega)).1 h
  rw [Nat.add_mul] at h1
  omega
theorem round_facts {b : Nat} {x : Tk} {l : List Tk} {busy q : Nat} (hx : okT x = true) (h : bF b x l busy = busy) (hb : busy ≤ 200000) (hq : q < upN (busy + jN x) (tN x)) :
    setF (gF b x l q) (b + q * cN x) = some (wQ b x l q) ∧ wQ b x l q ≤ 200000 ∧ q * tN x ≤ 1200000 ∧ b + q * cN x ≤ 200000 := by
  obtain ⟨y, hy, hl, hm⟩ := begin_is hx h hb hq
  obtain ⟨q1, q2, q3, q4, q5, -⟩ := okT_n hx
  have h1 := below_upN q3 hq
  obtain ⟨h2, -⟩ := begins hx h hq
  unfold wQ
  rw [hy]
  simp only [Option.getD_some, true_and]
  omega
theorem gF_le {b : Nat} {x : Tk} {l : List Tk} {q : Nat} (hb : b + q * cN x ≤ 200000) (hl : ∀ y ∈ l, okT y = true) (hn : l.length ≤ 20) {t : Nat} (ht : t ≤ 200000) : gF b x l q t ≤ 10000000000 := by
  have h2 := sumN_le hl (show t + 1 ≤ 300000 by omega)
  have h3 : l.length * (135 * (300000 + 1000000)) ≤ 20 * (135 * (300000 + 1000000)) := Nat.mul_le_mul_right _ hn
  unfold gF
  omega
theorem wtK_le2 {b : Nat} {x : Tk} {l : List Tk} {busy : Nat} (hx : okT x = true) (h : bF b x l busy = busy) (hb : busy ≤ 200000) : ∀ q, q ≤ upN (busy + jN x) (tN x) → wtK b x l 0 q ≤ 1300000
  | 0, _ => by unfold wtK; omega
  | q + 1, hq => by
    have h1 := wtK_le2 hx h hb q (by omega)
    obtain ⟨-, h2, -, -⟩ := round_facts (q := q) hx h hb (by omega)
    obtain ⟨q1, q2, q3, q4, q5, -⟩ := okT_n hx
    unfold wtK tQ
    have h3 : 0 ≤ (q : Int) * (tN x : Int) := by rw [← Int.natCast_mul]; omega
    omega
set_option maxHeartbeats 8000000 in
set_option maxRecDepth 100000 in
theorem longestWait_any (x : Tk) (b g : Nat) (a : Option Addr) (n c : Nat) (l : List Tk) (w : World) (hx : okT x = true) (hb : b ≤ 135) (hl : ∀ y ∈ l, okT y = true) (hn : l.length ≤ 20) (hA : SumAt w g a n c l) (hS : SizesAt w) (hR : RulesAt w) :
    Calls Tryd.prog 24 #[x.val, .int .i64 b, smV g] w fun e w' => e = .returned (.int .i64 (waitN b x l)) ∧ Below w.heap.size w w' := by
  obtain ⟨q1, q2, q3, q4, q5, q6, q7, -⟩ := okT_n hx
  have hb1 := awD w (tkC x)
  have hb2 := awD (w.alloc (tkC x)) (.cells #[.int .i64 b] 3)
  have hb3 := awD ((w.alloc (tkC x)).alloc (.cells #[.int .i64 b] 3)) (.cells #[smV g] 67)
  have hb0 := bl2 (bl2 hb1 hb2) hb3
  have e2 : ((w.alloc (tkC x)).alloc (.cells #[.int .i64 b] 3)).heap.size = w.heap.size + 1 + 1 := by rw [allocS, allocS]
  have HX0 := Hid.mk (((TkAt.new w x).kept hb2).kept hb3)
  have HBX := Hid.mk (cell_kept hb3 (cell_of_row ((w.alloc (tkC x)).alloc (.cells #[.int .i64 b] 3)) (w.heap.size + 1) 0 _ _ _ (by rw [← allocS w (tkC x)]; exact heap_alloc_new _ _)))
  have HAX := Hid.mk (cell_of_row (((w.alloc (tkC x)).alloc (.cells #[.int .i64 b] 3)).alloc (.cells #[smV g] 67)) (w.heap.size + 1 + 1) 0 _ _ _ (by rw [← e2]; exact heap_alloc_new _ _))
  have HAX' : Hid ((((w.alloc (tkC x)).alloc (.cells #[.int .i64 b] 3)).alloc (.cells #[smV g] 67)).cell? ⟨w.heap.size + 1 + 1, 0, none⟩ = some (smV g)) := HAX
  have HBX' : Hid ((((w.alloc (tkC x)).alloc (.cells #[.int .i64 b] 3)).alloc (.cells #[smV g] 67)).cell? ⟨w.heap.size + 1, 0, none⟩ = some (.int .i64 b)) := HBX
  have HA0 := Hid.mk (hA.kept hb0)
  have HS0 := Hid.mk (hS.kept hb0)
  have HR0 := Hid.mk (hR.kept hb0)
  have HB0 := Hid.mk hb0
  have HZ0 := Hid.mk (show w.heap.size + 1 + 1 + 1 ≤ (((w.alloc (tkC x)).alloc (.cells #[.int .i64 b] 3)).alloc (.cells #[smV g] 67)).heap.size by rw [allocS, e2]; exact Nat.le_refl _)
  have HOX := Hid.mk hx
  have HOL := Hid.mk hl
  have HNL := Hid.mk hn
  have HBB := Hid.mk hb
  have HEV := Hid.mk q6
  have HJI := Hid.mk q7
  have HT1 := Hid.mk q3
  have HT2 := Hid.mk q4
  have HTJ := Hid.mk q5
  have HC1 := Hid.mk q1
  have HC2 := Hid.mk q2
  clear HAX HBX hb0 hb1 hb2 hb3 e2 hA hS hR hx hl hn q6 q7 q3 q4 q5
  obtain ⟨C, hC⟩ : ∃ C : Nat, C = cN x := ⟨_, rfl⟩
  have HCE := Hid.mk hC
  rw [← hC] at q1 q2
  clear hC
  obtain ⟨WT, hWT⟩ : ∃ WT : Int, WT = waitN b x l := ⟨_, rfl⟩
  rw [← hWT]
  have HWT := Hid.mk hWT
  clear hWT
  unfold tkC at HX0 HBX' HAX' HA0 HS0 HR0 HB0 HZ0
  unfold Tk.val smV
  unfold smV at HX0 HBX' HAX' HA0 HS0 HR0 HB0 HZ0
  go_enter Tryd.func24, Tryd.ntmps24
  go_wp2_with fail
  obtain ⟨W0, hW0⟩ : ∃ W0, W0 = ((w.alloc (.cells #[.int .i64 x.id, .int .i64 x.by_, .int .i64 x.ev, .int .i64 x.la, .int .i64 x.ji] 31)).alloc (.cells #[.int .i64 b] 3)).alloc (.cells #[.func (.func 41) #[] #[.pointer (some ⟨g, 0, none⟩)]] 67) := ⟨_, rfl⟩
  rw [← hW0] at HX0 HBX' HAX' HA0 HS0 HR0 HB0 HZ0 ⊢
  clear hW0
  go_cut [7, 8] (fun s7 s8 wx => ∃ g7, s7 = .pointer (some ⟨g7, 0, none⟩) ∧ s8 = .int .i64 C ∧ Hid (∃ p q, wx.cell? ⟨g7, 0, none⟩ = some (wkV p q) ∧ WkOn wx p q x) ∧ Hid (Below W0.heap.size W0 wx))
  case first =>
    have hS0 := HX0.out.all
    have HNE0 : Hid (w.heap.size ≠ W0.heap.size) := Hid.mk (by have := HZ0.out; omega)
    have HWK : Hid (∀ W, Below W0.heap.size W0 W → Calls Tryd.prog 27 #[x.val] W fun e w' => ∃ p q, e = .returned (wkV p q) ∧ WkOn w' p q x ∧ W.heap.size ≤ p ∧ W.heap.size ≤ q ∧ p < w'.heap.size ∧ q < w'.heap.size ∧ Below W.heap.size W w') := Hid.mk (fun W hW => workOf_any x W HOX.out (HS0.out.kept hW) (HR0.out.kept hW))
    have HTK : Hid (∀ W, Below W0.heap.size W0 W → Calls Tryd.prog 36 #[x.val] W fun e w' => e = .returned (.int .i64 C) ∧ Below W.heap.size W w') := Hid.mk (fun W hW => by rw [HCE.out]; exact takes_any x W HOX.out (HS0.out.kept hW) (HR0.out.kept hW))
    unfold Tk.val at HWK HTK
    have HD1 := Hid.mk (drewBD W0)
    have HD2 := Hid.mk (adrewBD W0 (.cells #[.nilFunc] 67))
    have HK2 := Hid.mk (show BoxAt (W0.alloc (.cells #[.nilFunc] 67)).drew W0.heap.size 67 .nilFunc from heap_alloc_new W0 _)
    go_region_held3 (fun w' => w'.cell? ⟨w.heap.size, 0, none⟩ = some (.int .i64 x.id) ∧ w'.cell? ⟨w.heap.size, 1, none⟩ = some (.int .i64 x.by_) ∧ w'.cell? ⟨w.heap.size, 2, none⟩ = some (.int .i64 x.ev) ∧ w'.cell? ⟨w.heap.size, 3, none⟩ = some (.int .i64 x.la) ∧ w'.cell? ⟨w.heap.size, 4, none⟩ = some (.int .i64 x.ji)) (with_reducible first | exact hS0 | exact (HX0.out.kept HD1.out).all | exact (HX0.out.kept HD2.out).all | exact (HX0.out.kept (awD _ _)).all | exact (HX0.out.kept HB1.out).all | exact (HX0.out.kept (bl2 HB1.out (awD _ _))).all | exact (HX0.out.kept HB2.out).all | exact (HX0.out.kept (bl2 HB2.out (awD _ _))).all | exact ((HX0.out.kept HB2.out).set HNE0.out _).all | exact ((HX0.out.kept HB2.out).set HNE1.out _).all) (first
      | (go_at_call 27; (first
        | (with_reducible refine (HWK.out _ HD1.out).mono ?_; rintro e w1 ⟨p, q, rfl, hwk, hp1, hq1, hp2, hq2, hb1⟩; have HB1 := Hid.mk (bl2 HD1.out hb1); have HNE1 := Hid.mk (Nat.ne_of_lt (Nat.lt_of_lt_of_le (Nat.lt_of_lt_of_le (Nat.lt_add_of_pos_right (Nat.zero_lt_succ 2)) HZ0.out) HB1.out.size)); have HPQ := Hid.mk (And.intro hp2 hq2); have HBA := Hid.mk (awD w1 (.cells #[.nilFunc] 67)); have HKA := Hid.mk (boxNew w1 .nilFunc 67))
        | (with_reducible refine (HWK.out _ HD2.out).mono ?_; rintro e w1 ⟨p, q, rfl, hwk, hp1, hq1, hp2, hq2, hb1⟩; have HB1 := Hid.mk (bl2 HD2.out hb1); have HK1 := Hid.mk (HK2.out.kept hb1); have HPQ := Hid.mk (And.intro hp1 hq1))); have HON := Hid.mk hwk; clear hwk hp1 hq1 hp2 hq2 hb1; unfold wkV)
      | (go_at_call 36; (first
        | (with_reducible refine (HTK.out _ (bl2 HB1.out HBA.out)).mono ?_; rintro e w2 ⟨rfl, hb2⟩; have HB2 := Hid.mk (bl2 (bl2 HB1.out HBA.out) hb2); have HO2 := Hid.mk ((HON.out.kept HBA.out).kept hb2); have HKB := Hid.mk (HKA.out.kept hb2); clear hb2; have hst := store_fnG HKB.out 42 #[.pointer (some ⟨p, 0, none⟩), .pointer (some ⟨q, 0, none⟩)])
        | (with_reducible refine (HTK.out _ HB1.out).mono ?_; rintro e w2 ⟨rfl, hb2⟩; have HB2 := Hid.mk (bl2 HB1.out hb2); have HO2 := Hid.mk (HON.out.kept hb2); have HKB := Hid.mk (HK1.out.kept hb2); clear hb2; have hst := store_fnG HKB.out 42 #[.pointer (some ⟨p, 0, none⟩), .pointer (some ⟨q, 0, none⟩)])
        | (with_reducible refine (HTK.out _ HB1.out).mono ?_; rintro e w2 ⟨rfl, hb2⟩; have HB2 := Hid.mk (bl2 HB1.out hb2); have HO2 := Hid.mk (HON.out.kept hb2); clear hb2; have hst := store_fnD w2 42 #[.pointer (some ⟨p, 0, none⟩), .pointer (some ⟨q, 0, none⟩)] 67))))
    all_goals focus
      go_wp2_with fail
      go_meet
      first
        | exact ⟨_, rfl, rfl, Hid.mk ⟨p, q, (boxNew w2 _ 67).cell, HO2.out.kept (awD w2 _)⟩, Hid.mk (bl2 HB2.out (awD w2 _))⟩
        | exact ⟨_, rfl, rfl, Hid.mk ⟨p, q, (HKB.out.set _).cell, HO2.out.set (Nat.ne_of_lt HPQ.out.1) (Nat.ne_of_lt HPQ.out.2) _⟩, Hid.mk (HB2.out.setCell (p := ⟨w1.heap.size, 0, none⟩) HB1.out.size _)⟩
        | (have hz : (W0.alloc (.cells #[.nilFunc] 67)).drew.heap.size = W0.heap.size + 1 := allocS W0 _
           have hpq := HPQ.out
           rw [hz] at hpq
           exact ⟨_, rfl, rfl, Hid.mk ⟨p, q, (HKB.out.set _).cell, HO2.out.set (by omega) (by omega) _⟩, Hid.mk (HB2.out.setCell (p := ⟨W0.heap.size, 0, none⟩) (Nat.le_refl _) _)⟩)
  case rest =>
    obtain ⟨g7, rfl, rfl, HWW, HBc⟩ := hcut
    have HL1 : Hid (L1At wc (w.heap.size + 1) g7 (w.heap.size + 1 + 1) b x l) := Hid.mk ⟨cell_kept HBc.out HBX'.out, HWW.out, ⟨g, a, n, c, cell_kept HBc.out HAX'.out, HA0.out.kept HBc.out⟩⟩
    have k1 := HL1.out.b
    have HF0 := Hid.mk (bF_from HOX.out b l)
    rw [← HCE.out] at HF0
    have HST := Hid.mk (settle_any 38 #[.pointer (some ⟨w.heap.size + 1, 0, none⟩), .pointer (some ⟨g7, 0, none⟩), .pointer (some ⟨w.heap.size + 1 + 1, 0, none⟩)] enter_l1 (bF b x l) (b + C) wc (bF_mono b x l) HF0.out (fun t ht => (bF_le HBB.out HOX.out HOL.out HNL.out (show t ≤ 300000 by omega)).2.2) (by omega) (fun W t hW ht => wait1_any _ _ _ b t x l W (HL1.out.kept hW) HBB.out HOX.out HOL.out HNL.out (by omega)))
    have ebc : ((b + C : Nat) : Int) = (b : Int) + (C : Int) := by omega
    rw [ebc] at HST
    have hbi : (b : Int) ≤ 135 := by omega
    have hci : (C : Int) ≤ 135 := by omega
    clear ebc
    go_wp2_with fail
    have HWN : Hid (WT = match setF (bF b x l) (b + C) with | none => -1 | some y => wtK b x l 0 (upN (y + jN x) (tN x))) := Hid.mk (by rw [HWT.out, HCE.out]; rfl)
    cases hse : setF (bF b x l) (b + C) with
    | none =>
      rw [hse] at HST HWN
      refine HST.out.mono ?_
      rintro e w3 ⟨rfl, hb3⟩
      have HB3 := Hid.mk (bl2 (bl2 HB0.out HBc.out) hb3)
      clear hb3 HST hse
      simp only [Option.isSome_none, Option.getD_none]
      go_wp2_with fail
      go_ret
      exact ⟨by rw [HWN.out]; rfl, HB3.out⟩
    | some busy =>
      rw [hse] at HST
      have HWM : Hid (WT = wtK b x l 0 (upN (busy + jN x) (tN x))) := Hid.mk (by rw [HWN.out, hse])
      clear HWN
      have hse' : setF (bF b x l) (b + cN x) = some busy := by rw [← HCE.out]; exact hse
      obtain ⟨⟨-, hfx, -⟩, hbz⟩ := setF_some (bF_mono b x l) (bF_from HOX.out b l) hse'
      have HFX := Hid.mk hfx
      have HBZ := Hid.mk hbz
      refine HST.out.mono ?_
      rintro e w3 ⟨rfl, hb3⟩
      have HB3 := Hid.mk (bl2 HBc.out hb3)
      have HX3 := Hid.mk ((HX0.out.kept HBc.out).kept hb3)
      have HL3 := Hid.mk (HL1.out.kept hb3)
      clear hb3 HST hse hse' hfx k1 HWW HL1 HF0
      simp only [Option.isSome_some, Option.getD_some]
      obtain ⟨T, hT⟩ : ∃ T : Nat, T = tN x := ⟨_, rfl⟩
      obtain ⟨J, hJ⟩ : ∃ J : Nat, J = jN x := ⟨_, rfl⟩
      have HTE := Hid.mk hT
      have HJE := Hid.mk hJ
      have x2 := HX3.out.c2
      have x4 := HX3.out.c4
      rw [HEV.out, ← hT] at x2
      rw [HJI.out, ← hJ] at x4
      have t1 := HT1.out
      have t2 := HT2.out
      have t3 := HTJ.out
      rw [← hT] at t1 t2 t3
      rw [← hJ] at t3
      rw [← hT, ← hJ] at HWM
      clear hT hJ
      obtain ⟨K, hK⟩ : ∃ K : Nat, K = upN (busy + J) T := ⟨_, rfl⟩
      have hKb := upN_le (n := busy + J) t1
      have HUP : Hid (∀ W, Calls Tryd.prog 39 #[.int .i64 ((busy : Int) + (J : Int)), .int .i64 (T : Nat)] W fun e w' => e = .returned (.int .i64 (upN (busy + J) T : Nat)) ∧ w' = W) := Hid.mk (fun W => roundedUp_any (busy + J) T W (by omega) t1 t2)
      rw [← hK] at HUP HWM hKb
      have HKE := Hid.mk hK
      clear hK
      have i1 : (busy : Int) ≤ 200000 := by omega
      have i2 : (J : Int) ≤ 1000000 := by omega
      have i3 : (T : Int) ≤ 1000000 := by omega
      have i4 : (K : Int) ≤ 1200000 := by omega
      go_wp2_with fail
      refine (HUP.out _).mono ?_
      rintro e w4 ⟨rfl, hw4⟩
      rw [hw4]
      clear hw4 HUP
      go_wp2_with fail
      go_loopw [11, 37] (fun s i wr => ∃ (q : Nat) (S : Int), q ≤ K ∧ i = .int .i64 q ∧ s = .int .i64 S ∧ 0 ≤ S ∧ S ≤ 1300000 ∧ Hid (S = wtK b x l 0 q) ∧ Hid (Below w3.heap.size w3 wr)) (fun _ i _ => K - (intOf i).toNat)
      case atStart => exact ⟨0, 0, Nat.zero_le _, rfl, rfl, by omega, by omega, Hid.mk rfl, Hid.mk (Below.refl _ _)⟩
      case round =>
        obtain ⟨q, S, hq, rfl, rfl, hS0, hS1, HA, HB⟩ := hrel
        by_cases hlt : q < K
        · have hlt' : (q : Int) < (K : Int) := by omega
          obtain ⟨f1, f2, f3, f4⟩ := round_facts (q := q) HOX.out HFX.out HBZ.out (by rw [← HTE.out, ← HJE.out, ← HKE.out]; exact hlt)
          obtain ⟨Y, hY⟩ : ∃ Y : Nat, Y = wQ b x l q := ⟨_, rfl⟩
          have hTQ : tQ b x l q = (J : Int) + (Y : Int) - (q : Int) * (T : Int) + (C : Int) := by unfold tQ; rw [hY, HTE.out, HJE.out, HCE.out]
          have HNX : Hid (wtK b x l 0 (q + 1) = max S ((J : Int) + (Y : Int) - (q : Int) * (T : Int) + (C : Int))) := Hid.mk (by rw [wtK, ← HA.out, hTQ])
          have HNB := Hid.mk (wtK_le2 (q := q + 1) HOX.out HFX.out HBZ.out (by rw [← HTE.out, ← HJE.out, ← HKE.out]; exact hlt))
          rw [HNX.out] at HNB
          rw [← hY, ← HCE.out] at f1
          rw [← hY] at f2
          rw [← HTE.out] at f3
          have hqT0 : 0 ≤ (q : Int) * (T : Int) := by rw [← Int.natCast_mul]; omega
          have hqT1 : (q : Int) * (T : Int) ≤ 1200000 := by rw [← Int.natCast_mul]; omega
          have hqC0 : 0 ≤ (q : Int) * (C : Int) := by rw [← Int.natCast_mul]; omega
          have hqC1 : (q : Int) * (C : Int) ≤ 200000 := by rw [← Int.natCast_mul, HCE.out]; omega
          have hY1 : (Y : Int) ≤ 200000 := by omega
          have hqi : (q : Int) ≤ 1200000 := by omega
          have ebc : ((b + q * C : Nat) : Int) = (b : Int) + (q : Int) * (C : Int) := by rw [Int.natCast_add, Int.natCast_mul]
          have hb5 := awD wr (.cells #[.int .i64 ((b : Int) + (q : Int) * (C : Int))] 3)
          have HB5 := Hid.mk (bl2 HB.out hb5)
          have HL5 := Hid.mk ((HL3.out.kept HB.out).kept hb5)
          have hd5 : (wr.alloc (.cells #[.int .i64 ((b : Int) + (q : Int) * (C : Int))] 3)).cell? ⟨wr.heap.size, 0, none⟩ = some (.int .i64 ((b + q * C : Nat) : Int)) := by rw [ebc]; exact cell_of_row _ _ 0 _ _ _ (heap_alloc_new wr _)
          have hqC : b + q * C ≤ 200000 := by rw [HCE.out]; exact f4
          have HST := Hid.mk (settle_any 40 #[.pointer (some ⟨wr.heap.size, 0, none⟩), .pointer (some ⟨w.heap.size + 1 + 1, 0, none⟩)] enter_l2 (gF b x l q) (b + q * C) (wr.alloc (.cells #[.int .i64 ((b : Int) + (q : Int) * (C : Int))] 3)) (gF_mono b x l q) (by rw [HCE.out]; exact gF_from b x l q _) (fun t ht => gF_le f4 HOL.out HNL.out ht) (by omega) (fun W t hW ht => by
            have := wait2_any wr.heap.size (w.heap.size + 1 + 1) (b + q * C) t l W (cell_kept hW hd5) ((HL5.out.kept hW).a) (by omega) HOL.out HNL.out ht
            unfold gF
            rw [← HCE.out]
            exact this))
          rw [ebc, f1] at HST
          have k1 := cell_kept HB.out HL3.out.b
          have HX4 := Hid.mk (show wr.cell? ⟨w.heap.size, 2, none⟩ = some (.int .i64 (T : Nat)) ∧ wr.cell? ⟨w.heap.size, 4, none⟩ = some (.int .i64 (J : Nat)) from ⟨cell_kept HB.out x2, cell_kept HB.out x4⟩)
          clear f1 f2 f3 f4 hY hTQ ebc hb5 hd5 hqC x2 x4
          go_wp2_with fail
          refine HST.out.mono ?_
          rintro e w5 ⟨rfl, hb6⟩
          have HB6 := Hid.mk (bl2 HB5.out hb6)
          have hb7 := bl2 (awD wr (.cells #[.int .i64 ((b : Int) + (q : Int) * (C : Int))] 3)) hb6
          have x2 := cell_kept hb7 HX4.out.1
          have x4 := cell_kept hb7 HX4.out.2
          clear hb6 hb7 HST k1
          simp only [Option.isSome_some, Option.getD_some]
          by_cases hmx : S < (J : Int) + (Y : Int) - (q : Int) * (T : Int) + (C : Int)
          · have HE : Hid ((J : Int) + (Y : Int) - (q : Int) * (T : Int) + (C : Int) = wtK b x l 0 (q + 1)) := Hid.mk (by rw [HNX.out]; omega)
            have hVB : (J : Int) + (Y : Int) - (q : Int) * (T : Int) + (C : Int) ≤ 1300000 := by have := HNB.out; omega
            go_wp2_with fail
            go_roundw
            case rel => exact ⟨q + 1, _, by omega, by go_num, by first | rfl | (apply int_eq; omega), by omega, hVB, HE, HB6⟩
            case measure => simp [intOf]; omega
          · have HE : Hid (S = wtK b x l 0 (q + 1)) := Hid.mk (by rw [HNX.out]; omega)
            have hmx2 : (J : Int) + (Y : Int) - (q : Int) * (T : Int) + (C : Int) ≤ S := by omega
            go_wp2_with fail
            go_roundw
            case rel => exact ⟨q + 1, S, by omega, by go_num, by first | rfl | (apply int_eq; omega), hS0, hS1, HE, HB6⟩
            case measure => simp [intOf]; omega
        · obtain rfl : q = K := by omega
          have HE : Hid (S = WT) := Hid.mk (by rw [HA.out, HWM.out])
          go_wp2_with fail
          go_ret
          exact ⟨by rw [HE.out]; rfl, bl2 HB0.out (bl2 HB3.out HB.out)⟩
end Bw
end Go.Proofs.YtnhnemmddgofnaaDoor
