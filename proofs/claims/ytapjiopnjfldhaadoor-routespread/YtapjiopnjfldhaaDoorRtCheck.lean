/- What route.isBus, isTime and checkRoute answer. -/
import Derived.Test.YtapjiopnjfldhaaDoorRtRow
namespace Go.Proofs.YtapjiopnjfldhaaDoor
open Go.ChangeShapes Go.WideShapes Go.ChangeAt Go.RowKit
namespace Bw
set_option linter.unusedVariables false
theorem isBus_any (n : Int) (w : World) : Calls Tryd.prog 45 #[.int .i64 n] w fun e w' => e = .returned (.bool (busB n)) ∧ w' = w := by
  unfold busB
  by_cases h0 : 0 ≤ n
  · by_cases h1 : n < 4
    · rw [decide_eq_true (⟨h0, h1⟩ : 0 ≤ n ∧ n < 4)]
      go_enter Tryd.func45, Tryd.ntmps45
      go_wp2_with fail
      go_ret
      exact ⟨rfl, rfl⟩
    · rw [decide_eq_false (fun h => h1 h.2)]
      go_enter Tryd.func45, Tryd.ntmps45
      go_wp2_with fail
      go_ret
      exact ⟨by first | rfl | (congr 1; simp; omega), rfl⟩
  · rw [decide_eq_false (fun h => h0 h.1)]
    go_enter Tryd.func45, Tryd.ntmps45
    go_wp2_with fail
    go_ret
    exact ⟨by first | rfl | (congr 1; simp; omega), rfl⟩
theorem isTime_any (n : Int) (w : World) : Calls Tryd.prog 54 #[.int .i64 n] w fun e w' => e = .returned (.bool (timB n)) ∧ w' = w := by
  unfold timB
  by_cases h0 : 0 ≤ n
  · by_cases h1 : n ≤ 1000000
    · rw [decide_eq_true (⟨h0, h1⟩ : 0 ≤ n ∧ n ≤ 1000000)]
      go_enter Tryd.func54, Tryd.ntmps54
      go_wp2_with fail
      go_ret
      exact ⟨rfl, rfl⟩
    · rw [decide_eq_false (fun h => h1 h.2)]
      go_enter Tryd.func54, Tryd.ntmps54
      go_wp2_with fail
      go_ret
      exact ⟨by first | rfl | (congr 1; simp; omega), rfl⟩
  · rw [decide_eq_false (fun h => h0 h.1)]
    go_enter Tryd.func54, Tryd.ntmps54
    go_wp2_with fail
    go_ret
    exact ⟨by first | rfl | (congr 1; simp; omega), rfl⟩
theorem fit_of {r : Rt} {t : Int} : fitR r t = (busB r.fr && busB r.tb && !(r.fr == r.tb) && timB r.ev && !(t != -1 && !timB t)) := by
  rw [Bool.eq_iff_iff]
  unfold fitR busB timB
  simp
  omega
set_option maxHeartbeats 4000000 in
set_option maxRecDepth 100000 in
theorem cr_from (r : Rt) (t : Int) (w : World) (hL : LastsAt w) (h1 : busB r.fr = false) :
    Calls Tryd.prog 34 #[r.val, .int .i64 t] w fun e w' => e = .returned (.int .i64 3) ∧ Below w.heap.size w w' := by
  have HBus := Hid.mk isBus_any
  have HTim := Hid.mk isTime_any
  have hb := awB w (rtC r)
  have HB := Hid.mk hb
  obtain ⟨fr, tb, f, add, ev⟩ := r
  obtain ⟨fw, fm, flo⟩ := f
  unfold rtC at HB
  unfold Rt.val
  simp only at *
  clear hb hL
  go_enter Tryd.func34, Tryd.ntmps34
  go_wp2_with (first | (go_at_call 45; with_reducible refine (HBus.out _ _).mono ?_; rintro e wq ⟨rfl, hwq⟩; rw [hwq]; clear hwq) | (go_at_call 54; with_reducible refine (HTim.out _ _).mono ?_; rintro e wq ⟨rfl, hwq⟩; rw [hwq]; clear hwq))
  go_ret
  exact ⟨rfl, HB.out⟩
set_option maxHeartbeats 4000000 in
set_option maxRecDepth 100000 in
theorem cr_to (r : Rt) (t : Int) (w : World) (hL : LastsAt w) (h1 : busB r.fr = true) (h2 : busB r.tb = false) :
    Calls Tryd.prog 34 #[r.val, .int .i64 t] w fun e w' => e = .returned (.int .i64 3) ∧ Below w.heap.size w w' := by
  have HBus := Hid.mk isBus_any
  have HTim := Hid.mk isTime_any
  have hb := awB w (rtC r)
  have HB := Hid.mk hb
  obtain ⟨fr, tb, f, add, ev⟩ := r
  obtain ⟨fw, fm, flo⟩ := f
  unfold rtC at HB
  unfold Rt.val
  simp only at *
  clear hb hL
  go_enter Tryd.func34, Tryd.ntmps34
  go_wp2_with (first | (go_at_call 45; with_reducible refine (HBus.out _ _).mono ?_; rintro e wq ⟨rfl, hwq⟩; rw [hwq]; clear hwq) | (go_at_call 54; with_reducible refine (HTim.out _ _).mono ?_; rintro e wq ⟨rfl, hwq⟩; rw [hwq]; clear hwq))
  go_ret
  exact ⟨rfl, HB.out⟩
set_option maxHeartbeats 4000000 in
set_option maxRecDepth 100000 in
theorem cr_same (r : Rt) (t : Int) (w : World) (hL : LastsAt w) (h1 : busB r.fr = true) (h2 : busB r.tb = true) (h3 : (r.fr == r.tb) = true) :
    Calls Tryd.prog 34 #[r.val, .int .i64 t] w fun e w' => e = .returned (.int .i64 3) ∧ Below w.heap.size w w' := by
  have HBus := Hid.mk isBus_any
  have HTim := Hid.mk isTime_any
  have hb := awB w (rtC r)
  have HB := Hid.mk hb
  obtain ⟨fr, tb, f, add, ev⟩ := r
  obtain ⟨fw, fm, flo⟩ := f
  unfold rtC at HB
  unfold Rt.val
  simp only at *
  clear hb hL
  go_enter Tryd.func34, Tryd.ntmps34
  go_wp2_with (first | (go_at_call 45; with_reducible refine (HBus.out _ _).mono ?_; rintro e wq ⟨rfl, hwq⟩; rw [hwq]; clear hwq) | (go_at_call 54; with_reducible refine (HTim.out _ _).mono ?_; rintro e wq ⟨rfl, hwq⟩; rw [hwq]; clear hwq))
  go_ret
  exact ⟨rfl, HB.out⟩
set_option maxHeartbeats 4000000 in
set_option maxRecDepth 100000 in
theorem cr_every (r : Rt) (t : Int) (w : World) (hL : LastsAt w) (h1 : busB r.fr = true) (h2 : busB r.tb = true) (h3 : (r.fr == r.tb) = false) (h4 : timB r.ev = false) :
    Calls Tryd.prog 34 #[r.val, .int .i64 t] w fun e w' => e = .returned (.int .i64 3) ∧ Below w.heap.size w w' := by
  have HBus := Hid.mk isBus_any
  have HTim := Hid.mk isTime_any
  have hb := awB w (rtC r)
  have HB := Hid.mk hb
  obtain ⟨fr, tb, f, add, ev⟩ := r
  obtain ⟨fw, fm, flo⟩ := f
  unfold rtC at HB
  unfold Rt.val
  simp only at *
  clear hb hL
  go_enter Tryd.func34, Tryd.ntmps34
  go_wp2_with (first | (go_at_call 45; with_reducible refine (HBus.out _ _).mono ?_; rintro e wq ⟨rfl, hwq⟩; rw [hwq]; clear hwq) | (go_at_call 54; with_reducible refine (HTim.out _ _).mono ?_; rintro e wq ⟨rfl, hwq⟩; rw [hwq]; clear hwq))
  go_ret
  exact ⟨rfl, HB.out⟩
set_option maxHeartbeats 4000000 in
set_option maxRecDepth 100000 in
theorem cr_last (r : Rt) (t : Int) (w : World) (hL : LastsAt w) (h1 : busB r.fr = true) (h2 : busB r.tb = true) (h3 : (r.fr == r.tb) = false) (h4 : timB r.ev = true) (h5 : (t != -1) = true) (h6 : timB t = false) :
    Calls Tryd.prog 34 #[r.val, .int .i64 t] w fun e w' => e = .returned (.int .i64 3) ∧ Below w.heap.size w w' := by
  have HBus := Hid.mk isBus_any
  have HTim := Hid.mk isTime_any
  have hb := awB w (rtC r)
  have HB := Hid.mk hb
  obtain ⟨fr, tb, f, add, ev⟩ := r
  obtain ⟨fw, fm, flo⟩ := f
  unfold rtC at HB
  unfold Rt.val
  simp only at *
  clear hb hL
  go_enter Tryd.func34, Tryd.ntmps34
  go_wp2_with (first | (go_at_call 45; with_reducible refine (HBus.out _ _).mono ?_; rintro e wq ⟨rfl, hwq⟩; rw [hwq]; clear hwq) | (go_at_call 54; with_reducible refine (HTim.out _ _).mono ?_; rintro e wq ⟨rfl, hwq⟩; rw [hwq]; clear hwq))
  go_ret
  exact ⟨rfl, HB.out⟩
set_option maxHeartbeats 4000000 in
set_option maxRecDepth 100000 in
theorem cr_filA (r : Rt) (t : Int) (w : World) (hL : LastsAt w) (h1 : busB r.fr = true) (h2 : busB r.tb = true) (h3 : (r.fr == r.tb) = false) (h4 : timB r.ev = true) (h5 : (t != -1) = false) (h7 : okFl r.f = false) :
    Calls Tryd.prog 34 #[r.val, .int .i64 t] w fun e w' => e = .returned (.int .i64 3) ∧ Below w.heap.size w w' := by
  have HBus := Hid.mk isBus_any
  have HTim := Hid.mk isTime_any
  have hb := awB w (rtC r)
  have HB := Hid.mk hb
  have hb1 := awB (w.alloc (rtC r)) (.cells #[.int .i64 r.f.w, .int .i64 r.f.m, .bool r.f.lo] 43)
  have hC := fcheck_any _ 1 1 _ _ (fils_one (w.alloc (rtC r)) r.f) ((hL.kept hb).kept hb1)
  rw [chk_one, show (w.alloc (rtC r)).heap.size = w.heap.size + 1 by simp] at hC
  have HB1 := Hid.mk (bl2 hb hb1)
  have HC := Hid.mk hC
  clear hb1 hC
  obtain ⟨fr, tb, f, add, ev⟩ := r
  obtain ⟨fw, fm, flo⟩ := f
  unfold rtC at HB HB1 HC
  unfold Rt.val
  simp only at *
  rw [if_neg (by rw [h7]; simp)] at HC
  have HA := Hid.mk ((RtAt.new w ⟨fr, tb, ⟨fw, fm, flo⟩, add, ev⟩).kept (awB _ (.cells #[.int .i64 fw, .int .i64 fm, .bool flo] 43)))
  unfold rtC at HA
  clear h7
  clear hb hL
  go_enter Tryd.func34, Tryd.ntmps34
  go_wp2_with (first | (go_at_call 45; with_reducible refine (HBus.out _ _).mono ?_; rintro e wq ⟨rfl, hwq⟩; rw [hwq]; clear hwq) | (go_at_call 54; with_reducible refine (HTim.out _ _).mono ?_; rintro e wq ⟨rfl, hwq⟩; rw [hwq]; clear hwq))
  refine HC.out.mono ?_
  rintro e w1 ⟨rfl, hb2⟩
  have HB2 := Hid.mk (bl2 HB1.out hb2)
  have k5 : w1.cell? ⟨w.heap.size, 5, none⟩ = some (.int .i64 add) := (HA.out.kept hb2).c5
  clear hb2 HB1 HC HA
  go_wp2_with fail
  go_ret
  exact ⟨rfl, HB2.out⟩
set_option maxHeartbeats 4000000 in
set_option maxRecDepth 100000 in
theorem cr_lowA (r : Rt) (t : Int) (w : World) (hL : LastsAt w) (h1 : busB r.fr = true) (h2 : busB r.tb = true) (h3 : (r.fr == r.tb) = false) (h4 : timB r.ev = true) (h5 : (t != -1) = false) (h7 : okFl r.f = true) (h8 : r.add < -536870911) :
    Calls Tryd.prog 34 #[r.val, .int .i64 t] w fun e w' => e = .returned (.int .i64 3) ∧ Below w.heap.size w w' := by
  have HBus := Hid.mk isBus_any
  have HTim := Hid.mk isTime_any
  have hb := awB w (rtC r)
  have HB := Hid.mk hb
  have hb1 := awB (w.alloc (rtC r)) (.cells #[.int .i64 r.f.w, .int .i64 r.f.m, .bool r.f.lo] 43)
  have hC := fcheck_any _ 1 1 _ _ (fils_one (w.alloc (rtC r)) r.f) ((hL.kept hb).kept hb1)
  rw [chk_one, show (w.alloc (rtC r)).heap.size = w.heap.size + 1 by simp] at hC
  have HB1 := Hid.mk (bl2 hb hb1)
  have HC := Hid.mk hC
  clear hb1 hC
  obtain ⟨fr, tb, f, add, ev⟩ := r
  obtain ⟨fw, fm, flo⟩ := f
  unfold rtC at HB HB1 HC
  unfold Rt.val
  simp only at *
  rw [if_pos h7] at HC
  have HA := Hid.mk ((RtAt.new w ⟨fr, tb, ⟨fw, fm, flo⟩, add, ev⟩).kept (awB _ (.cells #[.int .i64 fw, .int .i64 fm, .bool flo] 43)))
  unfold rtC at HA
  clear h7
  clear hb hL
  go_enter Tryd.func34, Tryd.ntmps34
  go_wp2_with (first | (go_at_call 45; with_reducible refine (HBus.out _ _).mono ?_; rintro e wq ⟨rfl, hwq⟩; rw [hwq]; clear hwq) | (go_at_call 54; with_reducible refine (HTim.out _ _).mono ?_; rintro e wq ⟨rfl, hwq⟩; rw [hwq]; clear hwq))
  refine HC.out.mono ?_
  rintro e w1 ⟨rfl, hb2⟩
  have HB2 := Hid.mk (bl2 HB1.out hb2)
  have k5 : w1.cell? ⟨w.heap.size, 5, none⟩ = some (.int .i64 add) := (HA.out.kept hb2).c5
  clear hb2 HB1 HC HA
  go_wp2_with fail
  go_ret
  exact ⟨rfl, HB2.out⟩
set_option maxHeartbeats 4000000 in
set_option maxRecDepth 100000 in
theorem cr_highA (r : Rt) (t : Int) (w : World) (hL : LastsAt w) (h1 : busB r.fr = true) (h2 : busB r.tb = true) (h3 : (r.fr == r.tb) = false) (h4 : timB r.ev = true) (h5 : (t != -1) = false) (h7 : okFl r.f = true) (h8 : ¬ r.add < -536870911) (h9 : 536870911 < r.add) :
    Calls Tryd.prog 34 #[r.val, .int .i64 t] w fun e w' => e = .returned (.int .i64 3) ∧ Below w.heap.size w w' := by
  have HBus := Hid.mk isBus_any
  have HTim := Hid.mk isTime_any
  have hb := awB w (rtC r)
  have HB := Hid.mk hb
  have hb1 := awB (w.alloc (rtC r)) (.cells #[.int .i64 r.f.w, .int .i64 r.f.m, .bool r.f.lo] 43)
  have hC := fcheck_any _ 1 1 _ _ (fils_one (w.alloc (rtC r)) r.f) ((hL.kept hb).kept hb1)
  rw [chk_one, show (w.alloc (rtC r)).heap.size = w.heap.size + 1 by simp] at hC
  have HB1 := Hid.mk (bl2 hb hb1)
  have HC := Hid.mk hC
  clear hb1 hC
  obtain ⟨fr, tb, f, add, ev⟩ := r
  obtain ⟨fw, fm, flo⟩ := f
  unfold rtC at HB HB1 HC
  unfold Rt.val
  simp only at *
  rw [if_pos h7] at HC
  have HA := Hid.mk ((RtAt.new w ⟨fr, tb, ⟨fw, fm, flo⟩, add, ev⟩).kept (awB _ (.cells #[.int .i64 fw, .int .i64 fm, .bool flo] 43)))
  unfold rtC at HA
  clear h7
  clear hb hL
  go_enter Tryd.func34, Tryd.ntmps34
  go_wp2_with (first | (go_at_call 45; with_reducible refine (HBus.out _ _).mono ?_; rintro e wq ⟨rfl, hwq⟩; rw [hwq]; clear hwq) | (go_at_call 54; with_reducible refine (HTim.out _ _).mono ?_; rintro e wq ⟨rfl, hwq⟩; rw [hwq]; clear hwq))
  refine HC.out.mono ?_
  rintro e w1 ⟨rfl, hb2⟩
  have HB2 := Hid.mk (bl2 HB1.out hb2)
  have k5 : w1.cell? ⟨w.heap.size, 5, none⟩ = some (.int .i64 add) := (HA.out.kept hb2).c5
  clear hb2 HB1 HC HA
  go_wp2_with fail
  go_ret
  exact ⟨rfl, HB2.out⟩
set_option maxHeartbeats 4000000 in
set_option maxRecDepth 100000 in
theorem cr_okA (r : Rt) (t : Int) (w : World) (hL : LastsAt w) (h1 : busB r.fr = true) (h2 : busB r.tb = true) (h3 : (r.fr == r.tb) = false) (h4 : timB r.ev = true) (h5 : (t != -1) = false) (h7 : okFl r.f = true) (h8 : ¬ r.add < -536870911) (h9 : ¬ 536870911 < r.add) :
    Calls Tryd.prog 34 #[r.val, .int .i64 t] w fun e w' => e = .returned (.int .i64 0) ∧ Below w.heap.size w w' := by
  have HBus := Hid.mk isBus_any
  have HTim := Hid.mk isTime_any
  have hb := awB w (rtC r)
  have HB := Hid.mk hb
  have hb1 := awB (w.alloc (rtC r)) (.cells #[.int .i64 r.f.w, .int .i64 r.f.m, .bool r.f.lo] 43)
  have hC := fcheck_any _ 1 1 _ _ (fils_one (w.alloc (rtC r)) r.f) ((hL.kept hb).kept hb1)
  rw [chk_one, show (w.alloc (rtC r)).heap.size = w.heap.size + 1 by simp] at hC
  have HB1 := Hid.mk (bl2 hb hb1)
  have HC := Hid.mk hC
  clear hb1 hC
  obtain ⟨fr, tb, f, add, ev⟩ := r
  obtain ⟨fw, fm, flo⟩ := f
  unfold rtC at HB HB1 HC
  unfold Rt.val
  simp only at *
  rw [if_pos h7] at HC
  have HA := Hid.mk ((RtAt.new w ⟨fr, tb, ⟨fw, fm, flo⟩, add, ev⟩).kept (awB _ (.cells #[.int .i64 fw, .int .i64 fm, .bool flo] 43)))
  unfold rtC at HA
  clear h7
  clear hb hL
  go_enter Tryd.func34, Tryd.ntmps34
  go_wp2_with (first | (go_at_call 45; with_reducible refine (HBus.out _ _).mono ?_; rintro e wq ⟨rfl, hwq⟩; rw [hwq]; clear hwq) | (go_at_call 54; with_reducible refine (HTim.out _ _).mono ?_; rintro e wq ⟨rfl, hwq⟩; rw [hwq]; clear hwq))
  refine HC.out.mono ?_
  rintro e w1 ⟨rfl, hb2⟩
  have HB2 := Hid.mk (bl2 HB1.out hb2)
  have k5 : w1.cell? ⟨w.heap.size, 5, none⟩ = some (.int .i64 add) := (HA.out.kept hb2).c5
  clear hb2 HB1 HC HA
  go_wp2_with fail
  go_ret
  exact ⟨rfl, HB2.out⟩
set_option maxHeartbeats 4000000 in
set_option maxRecDepth 100000 in
theorem cr_filB (r : Rt) (t : Int) (w : World) (hL : LastsAt w) (h1 : busB r.fr = true) (h2 : busB r.tb = true) (h3 : (r.fr == r.tb) = false) (h4 : timB r.ev = true) (h5 : (t != -1) = true) (h6 : timB t = true) (h7 : okFl r.f = false) :
    Calls Tryd.prog 34 #[r.val, .int .i64 t] w fun e w' => e = .returned (.int .i64 3) ∧ Below w.heap.size w w' := by
  have HBus := Hid.mk isBus_any
  have HTim := Hid.mk isTime_any
  have hb := awB w (rtC r)
  have HB := Hid.mk hb
  have hb1 := awB (w.alloc (rtC r)) (.cells #[.int .i64 r.f.w, .int .i64 r.f.m, .bool r.f.lo] 43)
  have hC := fcheck_any _ 1 1 _ _ (fils_one (w.alloc (rtC r)) r.f) ((hL.kept hb).kept hb1)
  rw [chk_one, show (w.alloc (rtC r)).heap.size = w.heap.size + 1 by simp] at hC
  have HB1 := Hid.mk (bl2 hb hb1)
  have HC := Hid.mk hC
  clear hb1 hC
  obtain ⟨fr, tb, f, add, ev⟩ := r
  obtain ⟨fw, fm, flo⟩ := f
  unfold rtC at HB HB1 HC
  unfold Rt.val
  simp only at *
  rw [if_neg (by rw [h7]; simp)] at HC
  have HA := Hid.mk ((RtAt.new w ⟨fr, tb, ⟨fw, fm, flo⟩, add, ev⟩).kept (awB _ (.cells #[.int .i64 fw, .int .i64 fm, .bool flo] 43)))
  unfold rtC at HA
  clear h7
  clear hb hL
  go_enter Tryd.func34, Tryd.ntmps34
  go_wp2_with (first | (go_at_call 45; with_reducible refine (HBus.out _ _).mono ?_; rintro e wq ⟨rfl, hwq⟩; rw [hwq]; clear hwq) | (go_at_call 54; with_reducible refine (HTim.out _ _).mono ?_; rintro e wq ⟨rfl, hwq⟩; rw [hwq]; clear hwq))
  refine HC.out.mono ?_
  rintro e w1 ⟨rfl, hb2⟩
  have HB2 := Hid.mk (bl2 HB1.out hb2)
  have k5 : w1.cell? ⟨w.heap.size, 5, none⟩ = some (.int .i64 add) := (HA.out.kept hb2).c5
  clear hb2 HB1 HC HA
  go_wp2_with fail
  go_ret
  exact ⟨rfl, HB2.out⟩
set_option maxHeartbeats 4000000 in
set_option maxRecDepth 100000 in
theorem cr_lowB (r : Rt) (t : Int) (w : World) (hL : LastsAt w) (h1 : busB r.fr = true) (h2 : busB r.tb = true) (h3 : (r.fr == r.tb) = false) (h4 : timB r.ev = true) (h5 : (t != -1) = true) (h6 : timB t = true) (h7 : okFl r.f = true) (h8 : r.add < -536870911) :
    Calls Tryd.prog 34 #[r.val, .int .i64 t] w fun e w' => e = .returned (.int .i64 3) ∧ Below w.heap.size w w' := by
  have HBus := Hid.mk isBus_any
  have HTim := Hid.mk isTime_any
  have hb := awB w (rtC r)
  have HB := Hid.mk hb
  have hb1 := awB (w.alloc (rtC r)) (.cells #[.int .i64 r.f.w, .int .i64 r.f.m, .bool r.f.lo] 43)
  have hC := fcheck_any _ 1 1 _ _ (fils_one (w.alloc (rtC r)) r.f) ((hL.kept hb).kept hb1)
  rw [chk_one, show (w.alloc (rtC r)).heap.size = w.heap.size + 1 by simp] at hC
  have HB1 := Hid.mk (bl2 hb hb1)
  have HC := Hid.mk hC
  clear hb1 hC
  obtain ⟨fr, tb, f, add, ev⟩ := r
  obtain ⟨fw, fm, flo⟩ := f
  unfold rtC at HB HB1 HC
  unfold Rt.val
  simp only at *
  rw [if_pos h7] at HC
  have HA := Hid.mk ((RtAt.new w ⟨fr, tb, ⟨fw, fm, flo⟩, add, ev⟩).kept (awB _ (.cells #[.int .i64 fw, .int .i64 fm, .bool flo] 43)))
  unfold rtC at HA
  clear h7
  clear hb hL
  go_enter Tryd.func34, Tryd.ntmps34
  go_wp2_with (first | (go_at_call 45; with_reducible refine (HBus.out _ _).mono ?_; rintro e wq ⟨rfl, hwq⟩; rw [hwq]; clear hwq) | (go_at_call 54; with_reducible refine (HTim.out _ _).mono ?_; rintro e wq ⟨rfl, hwq⟩; rw [hwq]; clear hwq))
  refine HC.out.mono ?_
  rintro e w1 ⟨rfl, hb2⟩
  have HB2 := Hid.mk (bl2 HB1.out hb2)
  have k5 : w1.cell? ⟨w.heap.size, 5, none⟩ = some (.int .i64 add) := (HA.out.kept hb2).c5
  clear hb2 HB1 HC HA
  go_wp2_with fail
  go_ret
  exact ⟨rfl, HB2.out⟩
set_option maxHeartbeats 4000000 in
set_option maxRecDepth 100000 in
theorem cr_highB (r : Rt) (t : Int) (w : World) (hL : LastsAt w) (h1 : busB r.fr = true) (h2 : busB r.tb = true) (h3 : (r.fr == r.tb) = false) (h4 : timB r.ev = true) (h5 : (t != -1) = true) (h6 : timB t = true) (h7 : okFl r.f = true) (h8 : ¬ r.add < -536870911) (h9 : 536870911 < r.add) :
    Calls Tryd.prog 34 #[r.val, .int .i64 t] w fun e w' => e = .returned (.int .i64 3) ∧ Below w.heap.size w w' := by
  have HBus := Hid.mk isBus_any
  have HTim := Hid.mk isTime_any
  have hb := awB w (rtC r)
  have HB := Hid.mk hb
  have hb1 := awB (w.alloc (rtC r)) (.cells #[.int .i64 r.f.w, .int .i64 r.f.m, .bool r.f.lo] 43)
  have hC := fcheck_any _ 1 1 _ _ (fils_one (w.alloc (rtC r)) r.f) ((hL.kept hb).kept hb1)
  rw [chk_one, show (w.alloc (rtC r)).heap.size = w.heap.size + 1 by simp] at hC
  have HB1 := Hid.mk (bl2 hb hb1)
  have HC := Hid.mk hC
  clear hb1 hC
  obtain ⟨fr, tb, f, add, ev⟩ := r
  obtain ⟨fw, fm, flo⟩ := f
  unfold rtC at HB HB1 HC
  unfold Rt.val
  simp only at *
  rw [if_pos h7] at HC
  have HA := Hid.mk ((RtAt.new w ⟨fr, tb, ⟨fw, fm, flo⟩, add, ev⟩).kept (awB _ (.cells #[.int .i64 fw, .int .i64 fm, .bool flo] 43)))
  unfold rtC at HA
  clear h7
  clear hb hL
  go_enter Tryd.func34, Tryd.ntmps34
  go_wp2_with (first | (go_at_call 45; with_reducible refine (HBus.out _ _).mono ?_; rintro e wq ⟨rfl, hwq⟩; rw [hwq]; clear hwq) | (go_at_call 54; with_reducible refine (HTim.out _ _).mono ?_; rintro e wq ⟨rfl, hwq⟩; rw [hwq]; clear hwq))
  refine HC.out.mono ?_
  rintro e w1 ⟨rfl, hb2⟩
  have HB2 := Hid.mk (bl2 HB1.out hb2)
  have k5 : w1.cell? ⟨w.heap.size, 5, none⟩ = some (.int .i64 add) := (HA.out.kept hb2).c5
  clear hb2 HB1 HC HA
  go_wp2_with fail
  go_ret
  exact ⟨rfl, HB2.out⟩
set_option maxHeartbeats 4000000 in
set_option maxRecDepth 100000 in
theorem cr_okB (r : Rt) (t : Int) (w : World) (hL : LastsAt w) (h1 : busB r.fr = true) (h2 : busB r.tb = true) (h3 : (r.fr == r.tb) = false) (h4 : timB r.ev = true) (h5 : (t != -1) = true) (h6 : timB t = true) (h7 : okFl r.f = true) (h8 : ¬ r.add < -536870911) (h9 : ¬ 536870911 < r.add) :
    Calls Tryd.prog 34 #[r.val, .int .i64 t] w fun e w' => e = .returned (.int .i64 0) ∧ Below w.heap.size w w' := by
  have HBus := Hid.mk isBus_any
  have HTim := Hid.mk isTime_any
  have hb := awB w (rtC r)
  have HB := Hid.mk hb
  have hb1 := awB (w.alloc (rtC r)) (.cells #[.int .i64 r.f.w, .int .i64 r.f.m, .bool r.f.lo] 43)
  have hC := fcheck_any _ 1 1 _ _ (fils_one (w.alloc (rtC r)) r.f) ((hL.kept hb).kept hb1)
  rw [chk_one, show (w.alloc (rtC r)).heap.size = w.heap.size + 1 by simp] at hC
  have HB1 := Hid.mk (bl2 hb hb1)
  have HC := Hid.mk hC
  clear hb1 hC
  obtain ⟨fr, tb, f, add, ev⟩ := r
  obtain ⟨fw, fm, flo⟩ := f
  unfold rtC at HB HB1 HC
  unfold Rt.val
  simp only at *
  rw [if_pos h7] at HC
  have HA := Hid.mk ((RtAt.new w ⟨fr, tb, ⟨fw, fm, flo⟩, add, ev⟩).kept (awB _ (.cells #[.int .i64 fw, .int .i64 fm, .bool flo] 43)))
  unfold rtC at HA
  clear h7
  clear hb hL
  go_enter Tryd.func34, Tryd.ntmps34
  go_wp2_with (first | (go_at_call 45; with_reducible refine (HBus.out _ _).mono ?_; rintro e wq ⟨rfl, hwq⟩; rw [hwq]; clear hwq) | (go_at_call 54; with_reducible refine (HTim.out _ _).mono ?_; rintro e wq ⟨rfl, hwq⟩; rw [hwq]; clear hwq))
  refine HC.out.mono ?_
  rintro e w1 ⟨rfl, hb2⟩
  have HB2 := Hid.mk (bl2 HB1.out hb2)
  have k5 : w1.cell? ⟨w.heap.size, 5, none⟩ = some (.int .i64 add) := (HA.out.kept hb2).c5
  clear hb2 HB1 HC HA
  go_wp2_with fail
  go_ret
  exact ⟨rfl, HB2.out⟩
theorem checkRoute_any (r : Rt) (t : Int) (w : World) (hL : LastsAt w) :
    Calls Tryd.prog 34 #[r.val, .int .i64 t] w fun e w' => e = .returned (.int .i64 (rtE r t)) ∧ Below w.heap.size w w' := by
  unfold rtE okR addB
  rw [fit_of]
  cases h1 : busB r.fr
  · simp only [Bool.false_and, Bool.false_eq_true, if_false]; exact cr_from r t w hL h1
  cases h2 : busB r.tb
  · simp only [Bool.and_false, Bool.false_and, Bool.false_eq_true, if_false]; exact cr_to r t w hL h1 h2
  cases h3 : (r.fr == r.tb)
  rotate_left
  · simp only [Bool.not_true, Bool.and_false, Bool.false_and, Bool.false_eq_true, if_false]; exact cr_same r t w hL h1 h2 h3
  cases h4 : timB r.ev
  · simp only [Bool.and_false, Bool.false_and, Bool.false_eq_true, if_false]; exact cr_every r t w hL h1 h2 h3 h4
  cases h5 : (t != -1)
  · cases h7 : okFl r.f
    · simp only [Bool.and_false, Bool.false_and, Bool.false_eq_true, if_false]; exact cr_filA r t w hL h1 h2 h3 h4 h5 h7
    · by_cases h8 : r.add < -536870911
      · rw [decide_eq_false (fun h => by omega)]; simp only [Bool.and_false, Bool.false_eq_true, if_false]; exact cr_lowA r t w hL h1 h2 h3 h4 h5 h7 h8
      · by_cases h9 : 536870911 < r.add
        · rw [decide_eq_false (fun h => by omega)]; simp only [Bool.and_false, Bool.false_eq_true, if_false]; exact cr_highA r t w hL h1 h2 h3 h4 h5 h7 h8 h9
        · rw [decide_eq_true (⟨by omega, by omega⟩ : -536870911 ≤ r.add ∧ r.add ≤ 536870911)]; simp only [Bool.false_and, Bool.not_false, Bool.and_true, if_true]; exact cr_okA r t w hL h1 h2 h3 h4 h5 h7 h8 h9
  · cases h6 : timB t
    · simp only [Bool.not_false, Bool.and_true, Bool.not_true, Bool.and_false, Bool.false_and, Bool.false_eq_true, if_false]; exact cr_last r t w hL h1 h2 h3 h4 h5 h6
    cases h7 : okFl r.f
    · simp only [Bool.and_false, Bool.false_and, Bool.false_eq_true, if_false]; exact cr_filB r t w hL h1 h2 h3 h4 h5 h6 h7
    · by_cases h8 : r.add < -536870911
      · rw [decide_eq_false (fun h => by omega)]; simp only [Bool.and_false, Bool.false_eq_true, if_false]; exact cr_lowB r t w hL h1 h2 h3 h4 h5 h6 h7 h8
      · by_cases h9 : 536870911 < r.add
        · rw [decide_eq_false (fun h => by omega)]; simp only [Bool.and_false, Bool.false_eq_true, if_false]; exact cr_highB r t w hL h1 h2 h3 h4 h5 h6 h7 h8 h9
        · rw [decide_eq_true (⟨by omega, by omega⟩ : -536870911 ≤ r.add ∧ r.add ≤ 536870911)]; simp only [Bool.not_true, Bool.and_false, Bool.not_false, Bool.and_true, if_true]; exact cr_okB r t w hL h1 h2 h3 h4 h5 h6 h7 h8 h9
end Bw
end Go.Proofs.YtapjiopnjfldhaaDoor
