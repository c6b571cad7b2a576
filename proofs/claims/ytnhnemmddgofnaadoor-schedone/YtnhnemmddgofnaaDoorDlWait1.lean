/- What delay.workOf, sum, most and the two functions inside longestWait answer. -/
import Derived.Test.YtnhnemmddgofnaaDoorDlWork
namespace Go.Proofs.YtnhnemmddgofnaaDoor
open Go.ChangeShapes Go.WideShapes Go.ChangeAt Go.RowKit Go.Sort
namespace Bw
set_option linter.unusedVariables false
set_option maxHeartbeats 1000000 in
theorem workOf_any (x : Tk) (w : World) (hx : okT x = true) (hS : SizesAt w) (hR : RulesAt w) :
    Calls Tryd.prog 27 #[x.val] w fun e w' => ∃ p q, e = .returned (wkV p q) ∧ WkOn w' p q x ∧ w.heap.size ≤ p ∧ w.heap.size ≤ q ∧ p < w'.heap.size ∧ q < w'.heap.size ∧ Below w.heap.size w w' := by
  obtain ⟨q1, q2, q3, q4, q5, q6, q7, -⟩ := okT_n hx
  have hb := awD w (tkC x)
  have HB := Hid.mk hb
  have HV := Hid.mk (TkAt.new w x)
  have HC := Hid.mk (takes_any x (w.alloc (tkC x)) hx (hS.kept hb) (hR.kept hb))
  have HEV := Hid.mk q6
  have HJI := Hid.mk q7
  obtain ⟨C, hC⟩ : ∃ C : Nat, C = cN x := ⟨_, rfl⟩
  rw [← hC] at HC
  have HCC := Hid.mk hC
  obtain ⟨g0, g1, g2, g3, g4⟩ := HV.out
  clear hb hS hR hx q1 q2 q3 q4 q5 q6 q7 hC
  unfold tkC at HB HV HC g0 g1 g2 g3 g4
  unfold Tk.val at *
  go_enter Tryd.func27, Tryd.ntmps27
  go_wp2_with fail
  refine HC.out.mono ?_
  rintro e w1 ⟨rfl, hb1⟩
  have HB1 := Hid.mk (bl2 HB.out hb1)
  have HV1 := Hid.mk (HV.out.kept hb1)
  have HSZ := Hid.mk hb1.size
  clear hb1 HC HB g0 g1 g2 g3 g4
  go_wp2_with fail
  go_ret
  have hw : (w.alloc (.cells #[.int .i64 x.id, .int .i64 x.by_, .int .i64 x.ev, .int .i64 x.la, .int .i64 x.ji] 31)).heap.size = w.heap.size + 1 := Array.size_push _
  have h1 := HSZ.out
  rw [hw] at h1
  have hb2 := awD w1 (.cells #[.int .i64 (C : Nat)] 3)
  have hs2 : (w1.alloc (.cells #[.int .i64 (C : Nat)] 3)).heap.size = w1.heap.size + 1 := Array.size_push _
  refine ⟨w1.heap.size, w.heap.size, rfl, ⟨?_, ?_, ?_⟩, by omega, Nat.le_refl _, by omega, by omega, bl2 HB1.out hb2⟩
  · rw [← HCC.out]
    exact cell_of_row _ _ 0 _ _ _ (heap_alloc_new w1 _)
  · have := cell_kept hb2 HV1.out.c2
    rw [HEV.out] at this
    exact this
  · have := cell_kept hb2 HV1.out.c4
    rw [HJI.out] at this
    exact this
/-- the value of what sum makes -/
def smV (g : Nat) : Value := .func (.func 41) #[] #[.pointer (some ⟨g, 0, none⟩)]
set_option maxHeartbeats 1000000 in
theorem sum_any (a : Option Addr) (n c : Nat) (l : List Tk) (w : World) (hW : WksAt w a n c l) :
    Calls Tryd.prog 26 #[.slice a n c] w fun e w' => ∃ g, e = .returned (smV g) ∧ SumAt w' g a n c l ∧ Below w.heap.size w w' := by
  have HW := Hid.mk hW
  clear hW
  go_enter Tryd.func26, Tryd.ntmps26
  go_wp2_with fail
  go_ret
  have hb := awD w (.cells #[.slice a n c] 63)
  exact ⟨w.heap.size, rfl, ⟨cell_of_row _ _ 0 _ _ _ (heap_alloc_new w _), HW.out.kept hb⟩, hb⟩
set_option maxHeartbeats 4000000 in
set_option maxRecDepth 100000 in
theorem most_any' (a : Option Addr) (n c : Nat) (l : List Tk) (w : World) (hT : IsTks w a n c l) (hok : ∀ x ∈ l, okT x = true) (hS : SizesAt w) (hR : RulesAt w) :
    Calls Tryd.prog 25 #[.slice a n c] w fun e w' => e = .returned (.int .i64 (mostT l : Nat)) ∧ Below w.heap.size w w' := by
  have hn63 := mlenD (Nat.le_trans hT.le hT.max)
  have HOK := Hid.mk hok
  have HT := Hid.mk hT
  have HS := Hid.mk hS
  have HR := Hid.mk hR
  have HLN := Hid.mk hT.len
  obtain ⟨Z, hZ⟩ : ∃ Z : Nat, Z = mostT l := ⟨_, rfl⟩
  rw [← hZ]
  have HZ := Hid.mk hZ
  clear hT hok hS hR hZ
  go_enter Tryd.func25, Tryd.ntmps25
  go_wp2_with fail
  go_loopw [3, 8] (fun s i wr => ∃ (k S : Nat), k ≤ n ∧ i = .int .i64 k ∧ s = .int .i64 S ∧ S ≤ 135 ∧ Hid (S = mostT (l.take k)) ∧ Hid (Below w.heap.size w wr)) (fun _ i _ => n - (intOf i).toNat)
  case atStart => exact ⟨0, 0, Nat.zero_le _, rfl, rfl, by omega, Hid.mk rfl, Hid.mk (Below.refl _ _)⟩
  case round =>
    obtain ⟨k, S, hk, rfl, rfl, hS, HA, HB⟩ := hrel
    by_cases hlt : k < n
    · have hlt' : (k : Int) < (n : Int) := by omega
      obtain ⟨x, rfl⟩ := HT.out.some hlt
      obtain ⟨c0, c1, c2, c3, c4⟩ := (HT.out.kept HB.out).cell x rfl k hlt
      obtain ⟨r, hr⟩ : ∃ r, r = l.getD k noT := ⟨_, rfl⟩
      rw [← hr] at c0 c1 c2 c3 c4
      have hrok := HOK.out r (by rw [hr]; exact getD_memT (by rw [HLN.out]; exact hlt))
      obtain ⟨q1, q2, -⟩ := okT_n hrok
      have HD : Hid (max S (cN r) = mostT (l.take (k + 1))) := Hid.mk (by rw [HA.out, take_snocT (by rw [HLN.out]; exact hlt), mostT_snoc, hr])
      have hb1 := awD wr (tkC r)
      have HB1 := Hid.mk (bl2 HB.out hb1)
      have HTK := Hid.mk (takes_any r (wr.alloc (tkC r)) hrok ((HS.out.kept HB.out).kept hb1) ((HR.out.kept HB.out).kept hb1))
      have HV := Hid.mk (TkAt.new wr r)
      obtain ⟨g0, g1, g2, g3, g4⟩ := HV.out
      clear hr hb1 hrok HV
      obtain ⟨id, by_, ev, la, ji⟩ := r
      generalize cN ⟨id, by_, ev, la, ji⟩ = C at *
      have hC : (C : Int) ≤ 135 := by omega
      have hSk : (S : Int) ≤ 135 := by omega
      unfold tkC at HB1 HTK g0 g1 g2 g3 g4
      unfold Tk.val at HTK
      simp only at c0 c1 c2 c3 c4 HB1 HTK g0 g1 g2 g3 g4
      go_wp2_with fail
      refine HTK.out.mono ?_
      rintro e w1 ⟨rfl, hb1⟩
      have HB2 := Hid.mk (bl2 HB1.out hb1)
      clear hb1 HB1 g0 g1 g2 g3 g4 c0 c1 c2 c3 c4 HTK
      rcases Nat.lt_or_ge S C with hmx | hmx
      · have hmx' : (S : Int) < (C : Int) := by omega
        have HE : Hid (C = mostT (l.take (k + 1))) := Hid.mk (by rw [← HD.out]; omega)
        go_wp2_with fail
        go_roundw
        case rel => exact ⟨k + 1, C, by omega, by go_num, by first | rfl | (apply int_eq; omega), by omega, HE, HB2⟩
        case measure => simp [intOf]; omega
      · have hmx' : ¬ ((S : Int) < (C : Int)) := by omega
        have hmx2 : (C : Int) ≤ (S : Int) := by omega
        have HE : Hid (S = mostT (l.take (k + 1))) := Hid.mk (by rw [← HD.out]; omega)
        go_wp2_with fail
        go_roundw
        case rel => exact ⟨k + 1, S, by omega, by go_num, by first | rfl | (apply int_eq; omega), by omega, HE, HB2⟩
        case measure => simp [intOf]; omega
    · obtain rfl : k = n := by omega
      have HF : Hid (S = Z) := Hid.mk (by rw [HA.out, HZ.out, List.take_of_length_le (by rw [HLN.out]; exact Nat.le_refl _)])
      go_wp2_with fail
      go_ret
      exact ⟨by rw [HF.out]; rfl, HB.out⟩
/-- what the first function inside longestWait reads -/
structure L1At (w : World) (gb go ga : Nat) (b : Nat) (x : Tk) (l : List Tk) : Prop where
  b : w.cell? ⟨gb, 0, none⟩ = some (.int .i64 b)
  o : ∃ p q, w.cell? ⟨go, 0, none⟩ = some (wkV p q) ∧ WkOn w p q x
  a : ∃ g a n c, w.cell? ⟨ga, 0, none⟩ = some (smV g) ∧ SumAt w g a n c l
theorem L1At.kept {w w' : World} {gb go ga : Nat} {b : Nat} {x : Tk} {l : List Tk} (h : L1At w gb go ga b x l) (hb : Below w.heap.size w w') : L1At w' gb go ga b x l := by
  obtain ⟨h1, ⟨p, q, h2, h3⟩, ⟨g, a, n, c, h4, h5⟩⟩ := h
  exact ⟨cell_kept hb h1, ⟨p, q, cell_kept hb h2, h3.kept hb⟩, ⟨g, a, n, c, cell_kept hb h4, h5.kept hb⟩⟩
theorem bF_le {b : Nat} {x : Tk} {l : List Tk} (hb : b ≤ 135) (hx : okT x = true) (hl : ∀ y ∈ l, okT y = true) (hn : l.length ≤ 20) {t : Nat} (ht : t ≤ 300000) : wkN x t ≤ 175500000 ∧ sumN l t ≤ 3510000000 ∧ bF b x l t ≤ 10000000000 := by
  have h1 := wkN_le hx ht
  have h2 := sumN_le hl ht
  have h3 : l.length * (135 * (300000 + 1000000)) ≤ 20 * (135 * (300000 + 1000000)) := Nat.mul_le_mul_right _ hn
  unfold bF
  omega
set_option maxHeartbeats 2000000 in
set_option maxRecDepth 100000 in
theorem wait1_any (gb go ga b t : Nat) (x : Tk) (l : List Tk) (w : World) (hL : L1At w gb go ga b x l) (hb : b ≤ 135) (hx : okT x = true) (hl : ∀ y ∈ l, okT y = true) (hn : l.length ≤ 20) (ht : t ≤ 300000) :
    Calls Tryd.prog 38 #[.int .i64 t, .pointer (some ⟨gb, 0, none⟩), .pointer (some ⟨go, 0, none⟩), .pointer (some ⟨ga, 0, none⟩)] w fun e w' => e = .returned (.int .i64 (bF b x l t : Nat)) ∧ Below w.heap.size w w' := by
  obtain ⟨m1, m2, m3⟩ := bF_le hb hx hl hn ht
  obtain ⟨h1, ⟨p, q, h2, h3⟩, ⟨g, a, n, c, h4, h5⟩⟩ := hL
  have hnn : n ≤ 20 := by have := h5.row.len; omega
  have r1 := fun d os => cell_kept (below_regrown w d os) h1
  have r2 := fun d os => cell_kept (below_regrown w d os) h2
  have r3 := fun d os => cell_kept (below_regrown w d os) h4
  have HW := Hid.mk (fun d os => work1_any x p q t _ hx (h3.kept (below_regrown w d os)) ht)
  have HM := Hid.mk (fun d os => sum1_any l g t a n c _ hl hnn (h5.kept (below_regrown w d os)) ht)
  unfold wkV at r2
  unfold smV at r3
  unfold bF at m3 ⊢
  generalize wkN x t = X at *
  generalize sumN l t = Y at *
  have e1 := enter_wk
  have e2 := enter_sm
  have b1 : (b : Int) ≤ 135 := by omega
  have b2 : (X : Int) ≤ 175500000 := by omega
  have b3 : (Y : Int) ≤ 3510000000 := by omega
  clear hx hl hn ht h1 h2 h3 h4 h5 hb m1 m2 m3
  go_enter Tryd.func38, Tryd.ntmps38
  go_wp2_with fail
  refine wp_region_quiet_below (by kernel_rfl) (by kernel_rfl) ?_
  repeat (go_big_quiet_step (first | (go_at_fn 42; with_reducible_and_instances exact Calls.regrown_of (HW.out _ _)) | (go_at_fn 41; with_reducible_and_instances exact Calls.regrown_of (HM.out _ _))))
  refine wpQuiet_nil ?_
  intro _ hw'
  obtain ⟨⟨dq, osq⟩, hw''⟩ := hw'
  have HB := Hid.mk (below_regrown w dq osq)
  rw [hw'']
  clear r1 r2 r3 HW HM hw''
  generalize Go.Sort.grow (redrawn w dq) osq = W2 at *
  go_wp2_with fail
  go_ret
  refine ⟨?_, HB.out⟩
  have e : ((b + X + Y : Nat) : Int) = (b : Int) + (X : Int) + (Y : Int) := by omega
  rw [e]
  rfl
set_option maxHeartbeats 2000000 in
set_option maxRecDepth 100000 in
theorem wait2_any (gd ga d t : Nat) (l : List Tk) (w : World) (hd : w.cell? ⟨gd, 0, none⟩ = some (.int .i64 d)) (hA : ∃ g a n c, w.cell? ⟨ga, 0, none⟩ = some (smV g) ∧ SumAt w g a n c l) (hd2 : d ≤ 1000000000) (hl : ∀ y ∈ l, okT y = true) (hn : l.length ≤ 20) (ht : t ≤ 200000) :
    Calls Tryd.prog 40 #[.int .i64 t, .pointer (some ⟨gd, 0, none⟩), .pointer (some ⟨ga, 0, none⟩)] w fun e w' => e = .returned (.int .i64 (d + sumN l (t + 1) : Nat)) ∧ Below w.heap.size w w' := by
  obtain ⟨g, a, n, c, h4, h5⟩ := hA
  have hnn : n ≤ 20 := by have := h5.row.len; omega
  have m2 : sumN l (t + 1) ≤ 3510000000 := by
    have h2 := sumN_le hl (show t + 1 ≤ 300000 by omega)
    have h3 : l.length * (135 * (300000 + 1000000)) ≤ 20 * (135 * (300000 + 1000000)) := Nat.mul_le_mul_right _ hn
    omega
  have r1 := fun d os => cell_kept (below_regrown w d os) hd
  have r3 := fun d os => cell_kept (below_regrown w d os) h4
  have HM : Hid (∀ d os, Calls Tryd.prog 41 #[.int .i64 ((t : Int) + 1), .pointer (some ⟨g, 0, none⟩)] (grow (redrawn w d) os) fun e w' => e = .returned (.int .i64 (sumN l (t + 1) : Nat)) ∧ Below (grow (redrawn w d) os).heap.size (grow (redrawn w d) os) w') := Hid.mk (fun d os => sum1_any l g (t + 1) a n c _ hl hnn (h5.kept (below_regrown w d os)) (by omega))
  unfold smV at r3
  generalize sumN l (t + 1) = Y at *
  have e2 := enter_sm
  have b1 : (d : Int) ≤ 1000000000 := by omega
  have b2 : (t : Int) ≤ 200000 := by omega
  have b3 : (Y : Int) ≤ 3510000000 := by omega
  clear hl hn ht h4 h5 hd hd2 m2
  go_enter Tryd.func40, Tryd.ntmps40
  go_wp2_with fail
  refine wp_region_quiet_below (by kernel_rfl) (by kernel_rfl) ?_
  repeat (go_big_quiet_step ((go_at_fn 41; with_reducible_and_instances exact Calls.regrown_of (HM.out _ _))))
  refine wpQuiet_nil ?_
  intro _ hw'
  obtain ⟨⟨dq, osq⟩, hw''⟩ := hw'
  have HB := Hid.mk (below_regrown w dq osq)
  rw [hw'']
  clear r1 r3 HM hw''
  generalize Go.Sort.grow (redrawn w dq) osq = W2 at *
  go_wp2_with fail
  go_ret
  refine ⟨?_, HB.out⟩
  have e : ((d + Y : Nat) : Int) = (d : Int) + (Y : Int) := by omega
  rw [e]
  rfl
end Bw
end Go.Proofs.YtnhnemmddgofnaaDoor
