/- filter.size, filter.isWrong, filter.greatest. -/
import Derived.Test.YtfmjhgggoklaoaaDoorFilSize
namespace Go.Proofs.YtfmjhgggoklaoaaDoor
open Go.ChangeShapes Go.WideShapes Go.ChangeAt Go.RowKit
namespace Bw
/-- one filter in cells of its own -/
def box1 (w : World) (x : Fl) : World := w.alloc (.cells #[.int .i64 x.w, .int .i64 x.m, .bool x.lo] 34)
theorem box1_below (w : World) (x : Fl) : Below w.heap.size w (box1 w x) := (Below.refl _ _).alloc (Nat.le_refl _) _
def sizeN (x : Fn) : Nat := cntN x.lo (hitN x x.lo)
theorem pop_wid (lo : Bool) (y : Nat) (h : y ≤ topN lo) : popN 32 y = popN (widN lo) y := by
  cases lo
  · exact popN_more 11 21 y (Nat.lt_of_le_of_lt h (by decide))
  · exact popN_more 29 3 y (Nat.lt_of_le_of_lt h (by decide))
theorem size_32 (x : Fn) (h : okN x) : sizeN x = 2 ^ popN 32 (topN x.lo - x.m) := by
  unfold sizeN
  rw [size_N x h, pop_wid x.lo _ (Nat.sub_le _ _)]
theorem popN_29 (x : Fn) : popN 32 (topN x.lo - x.m) ≤ 29 := by
  rw [pop_wid x.lo _ (Nat.sub_le _ _)]
  refine Nat.le_trans (popN_le _ _) ?_
  cases x.lo <;> decide
theorem last_of (lo : Bool) (W0 W : World) (hL : LastsAt W0) (h : W.heap = W0.heap) :
    Calls Tryd.prog 25 #[.bool lo] W fun e w' => e = .returned (.int .i64 (topN lo)) ∧ w' = W :=
  last_any lo W (by unfold LastsAt World.cell? at *; rw [h]; exact hL)
theorem dr_below {w a : World} (h : Below w.heap.size w a) (n : Nat) : Below w.heap.size w (a.drewN n) := bl2 h ⟨rfl, rfl, rfl, Nat.le_refl _, fun _ _ => rfl⟩
theorem top_andnot (x : Fn) (h : okN x) : andnotN (topN x.lo) x.m = topN x.lo - x.m := by
  have := h.m
  have h2 := topN_lt x.lo
  rw [topN_eq, andnot_top _ _ (by omega)]
set_option maxHeartbeats 2000000 in
theorem size_any (x : Fn) (w : World) (hx : okN x) (hL : LastsAt w) :
    Calls Tryd.prog 33 #[x.f.val] w fun e w' => e = .returned (.int .i64 (sizeN x)) ∧ Below w.heap.size w w' := by
  have hp29 := popN_29 x
  rw [size_32 x hx]
  have hB := box1_below w x.f
  have hL1 := hL.kept hB
  have ht := topN_le x.lo
  have hm := hx.m
  have e1 := andnot_i64 (topN x.lo) x.m (by omega) (by omega)
  rw [top_andnot x hx] at e1
  have HO := Hid.mk (fun W => ones_any (topN x.lo - x.m) W (by omega))
  have HLa := Hid.mk (fun W => last_of x.lo (box1 w x.f) W hL1)
  have HB := Hid.mk hB
  have hu : IntKind.u64.wrap ((topN x.lo - x.m : Nat) : Int) = ((topN x.lo - x.m : Nat) : Int) := wraps_u64 _ (by omega) (by omega)
  unfold box1 at HB HLa
  unfold Fn.f Fl.val at *
  simp only at HB HLa ⊢
  generalize popN 32 (topN x.lo - x.m) = pp at *
  have hw : wrap64 (2 ^ pp) = ((2 ^ pp : Nat) : Int) := by
    have h1 : 2 ^ pp ≤ 2 ^ 29 := Nat.pow_le_pow_right (by omega) hp29
    have h2 : (2 : Int) ^ pp = ((2 ^ pp : Nat) : Int) := by simp
    have h3 := Nat.two_pow_pos pp
    rw [h2]
    generalize 2 ^ pp = q at *
    exact wrap64_small _ (by omega) (by omega)
  have HW := Hid.mk hw
  clear hw
  clear hL hL1 hB hx hm ht
  go_enter Tryd.func33, Tryd.ntmps33
  go_wp2_with fail
  go_quiet (first | (go_at_call 25; refine Calls.quiet_of_same (HLa.out _ rfl)) | (go_at_call 43; refine Calls.quiet_of_same (HO.out _)))
  go_wp2_with fail
  go_ret
  exact ⟨by rw [← HW.out]; rfl, dr_below HB.out _⟩
/-- a filter that may be -/
def okFl (x : Fl) : Bool := decide (0 ≤ x.w ∧ 0 ≤ x.m ∧ x.w ≤ topN x.lo ∧ x.m ≤ topN x.lo)
set_option maxHeartbeats 2000000 in
theorem isWrong_any (x : Fl) (w : World) (hL : LastsAt w) :
    Calls Tryd.prog 27 #[x.val] w fun e w' => e = .returned (.bool (!okFl x)) ∧ Below w.heap.size w w' := by
  have hB := box1_below w x
  have hL1 := hL.kept hB
  have HLa := Hid.mk (fun W => last_of x.lo (box1 w x) W hL1)
  have HB := Hid.mk hB
  unfold box1 at HB HLa
  unfold okFl Fl.val at *
  obtain ⟨a, m, lo⟩ := x
  simp only at HB HLa ⊢
  clear hL hL1 hB
  generalize topN lo = t at *
  obtain ⟨mn, hmn⟩ : ∃ mn, mn = min a m := ⟨_, rfl⟩
  obtain ⟨mx, hmx⟩ : ∃ mx, mx = max a m := ⟨_, rfl⟩
  have hmin : ∀ ts t W, (Builtin.min_ ts t #[.int .i64 a, .int .i64 m]).run Tryd.prog W = .ok (.int .i64 mn) W := by
    intro ts t W
    rw [hmn]
    simp [Builtin.min_, Builtin.min2]
    split <;> omega
  have hmax : ∀ ts t W, (Builtin.max_ ts t #[.int .i64 a, .int .i64 m]).run Tryd.prog W = .ok (.int .i64 mx) W := by
    intro ts t W
    rw [hmx]
    simp [Builtin.max_, Builtin.max2]
    split <;> omega
  by_cases h0 : mn < 0
  · have hr : (!decide (0 ≤ a ∧ 0 ≤ m ∧ a ≤ (t : Int) ∧ m ≤ (t : Int))) = true := by simp; omega
    rw [hr]
    have hd : decide (mn < 0) = true := by simp; omega
    clear hr h0 hmn hmx
    go_enter Tryd.func27, Tryd.ntmps27
    go_wp2_with fail
    go_quiet ((go_at_call 25; refine Calls.quiet_of_same (HLa.out _ rfl)))
    go_wp2_with fail
    go_ret
    exact ⟨rfl, dr_below HB.out _⟩
  · by_cases h1 : mx ≤ (t : Int)
    · have hr : (!decide (0 ≤ a ∧ 0 ≤ m ∧ a ≤ (t : Int) ∧ m ≤ (t : Int))) = false := by simp; omega
      rw [hr]
      have hd : decide (mn < 0) = false := by simp; omega
      have hd2 : decide ((t : Int) < mx) = false := by simp; omega
      clear h1
      clear hr h0 hmn hmx
      go_enter Tryd.func27, Tryd.ntmps27
      go_wp2_with fail
      go_quiet ((go_at_call 25; refine Calls.quiet_of_same (HLa.out _ rfl)))
      go_wp2_with fail
      go_ret
      exact ⟨rfl, dr_below HB.out _⟩
    · have hr : (!decide (0 ≤ a ∧ 0 ≤ m ∧ a ≤ (t : Int) ∧ m ≤ (t : Int))) = true := by simp; omega
      rw [hr]
      have hd : decide (mn < 0) = false := by simp; omega
      have hd2 : decide ((t : Int) < mx) = true := by simp; omega
      clear h1
      clear hr h0 hmn hmx
      go_enter Tryd.func27, Tryd.ntmps27
      go_wp2_with fail
      go_quiet ((go_at_call 25; refine Calls.quiet_of_same (HLa.out _ rfl)))
      go_wp2_with fail
      go_ret
      exact ⟨rfl, dr_below HB.out _⟩
theorem pow_i (j : Nat) : ((2 ^ j : Nat) : Int) = 2 ^ j := by simp
set_option maxHeartbeats 2000000 in
theorem greatest_any (low high : Nat) (w : World) (hl : low ≤ high) (hh : high ≤ 536870911) :
    Calls Tryd.prog 37 #[.int .i64 low, .int .i64 high] w fun e w' => e = .returned (.int .i64 ((2 ^ grX low high : Nat) : Int)) ∧ w' = w := by
  go_enter Tryd.func37, Tryd.ntmps37
  go_wp2_with fail
  go_loopw [5] (fun n wr => ∃ j q : Nat, q = 2 ^ j ∧ q ≤ high + 1 ∧ n = .int .i64 (q : Int) ∧ (∀ i, i < j → grC low high i = true) ∧ wr = w) (fun n _ => high + 1 - (intOf n).toNat)
  case atStart => exact ⟨0, 1, rfl, by omega, rfl, (fun i h => absurd h (Nat.not_lt_zero _)), rfl⟩
  case round =>
    obtain ⟨j, q, hq, hb, rfl, hc, rfl⟩ := hrel
    have hq1 : 1 ≤ q := by rw [hq]; exact Nat.two_pow_pos j
    have hj : j ≤ 30 := pow_le_of (by omega)
    have HC := Hid.mk hc
    have HQ := Hid.mk hq
    clear hc hq
    have hz0 : (low : Int) % (2 * (q : Int)) = ((low % (2 * q) : Nat) : Int) := by simp
    by_cases h1 : low % (2 * q) = 0
    · have hz : ((low : Int) % (2 * (q : Int)) == 0) = true := by rw [hz0, h1]; rfl
      by_cases h2 : low + 2 * q ≤ high + 1
      · have hle : (low : Int) + 2 * (q : Int) - 1 ≤ (high : Int) := by omega
        have hC : grC low high j = true := by
          unfold grC
          rw [← HQ.out]
          simp [h1, h2]
        have HCC := Hid.mk hC
        clear hC hz0 h1
        go_wp2_with fail
        go_roundw
        case rel =>
          refine ⟨j + 1, 2 * q, by rw [Nat.pow_succ, ← HQ.out]; omega, by omega, by congr 1; omega, fun i hi => ?_, trivial⟩
          by_cases e : i = j
          · subst e; exact HCC.out
          · exact HC.out i (by omega)
        case measure => simp [intOf]; omega
      · have hle : (high : Int) < (low : Int) + 2 * (q : Int) - 1 := by omega
        have hC : grC low high j = false := by
          unfold grC
          rw [← HQ.out]
          simp; omega
        have HCC := Hid.mk hC
        clear hC hz0 h1
        go_wp2_with fail
        go_ret
        exact ⟨by rw [grX_at HC.out HCC.out (by omega), ← HQ.out]; rfl, rfl⟩
    · have hz : ((low : Int) % (2 * (q : Int)) == 0) = false := by rw [hz0, beq_eq_false_iff_ne]; omega
      have hC : grC low high j = false := by
        unfold grC
        rw [← HQ.out]
        simp [h1]
      have HCC := Hid.mk hC
      clear hC hz0 h1
      go_wp2_with fail
      go_ret
      exact ⟨by rw [grX_at HC.out HCC.out (by omega), ← HQ.out]; rfl, rfl⟩
end Bw
end Go.Proofs.YtfmjhgggoklaoaaDoor
