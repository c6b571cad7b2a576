/- What filter.Check, and the document's CheckFilters and LetsIn, answer. -/
import Derived.Test.YtfmjhgggoklaoaaDoorFilRow
namespace Go.Proofs.YtfmjhgggoklaoaaDoor
open Go.ChangeShapes Go.WideShapes Go.ChangeAt Go.RowKit
namespace Bw
def badFl (l : List Fl) : Int := if l.any (fun x => !okFl x) = true then 3 else 0
theorem badFl_yes {l : List Fl} (h : l.any (fun x => !okFl x) = true) : badFl l = 3 := by unfold badFl; rw [if_pos h]
theorem badFl_no {l : List Fl} (h : l.any (fun x => !okFl x) = false) : badFl l = 0 := by unfold badFl; rw [h]; rfl
def chkFl (l : List Fl) : Int := if 16 < l.length then 2 else badFl l
theorem chkFl_zero {l : List Fl} (h : chkFl l = 0) : l.length ≤ 16 ∧ ∀ x ∈ l, okFl x = true := by
  unfold chkFl badFl at h
  split at h
  · cases h
  · split at h
    · cases h
    · rename_i h1 h2
      refine ⟨by omega, fun x hx => ?_⟩
      rw [Bool.not_eq_true, List.any_eq_false] at h2
      simpa using h2 x hx
theorem chkFl_cases (l : List Fl) : chkFl l = 0 ∨ chkFl l = 2 ∨ chkFl l = 3 := by
  unfold chkFl badFl
  split
  · simp
  · split <;> simp
set_option maxHeartbeats 2000000 in
theorem fcheck_any (a : Option Addr) (n c : Nat) (l : List Fl) (w : World) (hF : IsFils w a n c l) (hL : LastsAt w) :
    Calls Tryd.prog 12 #[.slice a n c] w fun e w' => e = .returned (.int .i64 (chkFl l)) ∧ Below w.heap.size w w' := by
  have HC := Hid.mk (containsFunc_any 27 #[] (enters_of Tryd.func27 (by kernel_rfl) rfl) (fun x => !okFl x) a n c l w hF (fun W x hb _ => isWrong_any x W (hL.kept hb)))
  have hlen := hF.len
  unfold chkFl
  rw [hlen]
  clear hF hL hlen
  by_cases hn : 16 < n
  · rw [if_pos hn]
    have hn' : (16 : Int) < (n : Int) := by omega
    go_enter Tryd.func12, Tryd.ntmps12
    go_wp2_with fail
    go_ret
    exact ⟨rfl, Below.refl _ _⟩
  · rw [if_neg hn]
    have hn' : (n : Int) ≤ 16 := by omega
    cases hq : l.any (fun x => !okFl x)
    · rw [hq] at HC
      rw [badFl_no hq]
      go_enter Tryd.func12, Tryd.ntmps12
      go_wp2_with fail
      refine HC.out.mono ?_
      rintro e w1 ⟨rfl, hb1⟩
      go_wp2_with fail
      go_ret
      exact ⟨rfl, hb1⟩
    · rw [hq] at HC
      rw [badFl_yes hq]
      go_enter Tryd.func12, Tryd.ntmps12
      go_wp2_with fail
      refine HC.out.mono ?_
      rintro e w1 ⟨rfl, hb1⟩
      go_wp2_with fail
      go_ret
      exact ⟨rfl, hb1⟩
theorem okFl_min (x : Fl) (t : Int) (h : t = topN x.lo) : okFl x = (!decide (min x.w x.m < 0) && !decide (t < max x.w x.m)) := by
  subst h
  unfold okFl
  rw [Bool.eq_iff_iff]
  simp only [decide_eq_true_eq, Bool.and_eq_true, Bool.not_eq_true', decide_eq_false_iff_not]
  omega
set_option maxHeartbeats 4000000 in
set_option maxRecDepth 100000 in
theorem checkFilters_any (a : Option Addr) (n c : Nat) (l : List Fl) (w : World) (hF : IsFils w a n c l) :
    Calls Tryd.prog 10 #[.slice a n c] w fun e w' => e = .returned (.int .i64 (chkFl l)) ∧ Below w.heap.size w w' := by
  have HF := Hid.mk hF
  have hlen := hF.len
  unfold chkFl
  rw [hlen]
  clear hF hlen
  by_cases hn : 16 < n
  · rw [if_pos hn]
    have hn' : (16 : Int) < (n : Int) := by omega
    go_enter Tryd.func10, Tryd.ntmps10
    go_wp2_with fail
    go_ret
    exact ⟨rfl, Below.refl _ _⟩
  · rw [if_neg hn]
    have hn' : (n : Int) ≤ 16 := by omega
    go_enter Tryd.func10, Tryd.ntmps10
    go_wp2_with fail
    go_loopw [11] (fun i wr => ∃ k : Nat, k ≤ n ∧ i = .int .i64 k ∧ Hid (∀ j, j < k → (!okFl (l.getD j noF)) = false) ∧ Hid (Below w.heap.size w wr)) (fun i _ => n - (intOf i).toNat)
    case atStart => exact ⟨0, Nat.zero_le _, rfl, Hid.mk (fun j hj => absurd hj (Nat.not_lt_zero _)), Hid.mk (Below.refl _ _)⟩
    case round =>
      obtain ⟨k, hk, rfl, HA, HB⟩ := hrel
      by_cases hlt : k < n
      · have hlt' : (k : Int) < (n : Int) := by omega
        obtain ⟨x, rfl⟩ := fils_some HF.out hlt
        obtain ⟨c0, c1, c2⟩ := fils_at (HF.out.kept HB.out) hlt
        obtain ⟨y, hy⟩ : ∃ y, y = l.getD k noF := ⟨_, rfl⟩
        rw [← hy] at c0 c1 c2
        have HY := Hid.mk hy
        have HB1 := Hid.mk (bl2 HB.out (box1_below wr y))
        have HO := Hid.mk (okFl_min y _ rfl)
        unfold box1 at HB1
        clear hy
        obtain ⟨aw, am, lo⟩ := y
        simp only at c0 c1 c2
        obtain ⟨mn, hmn⟩ : ∃ mn, mn = min aw am := ⟨_, rfl⟩
        obtain ⟨mx, hmx⟩ : ∃ mx, mx = max aw am := ⟨_, rfl⟩
        have hmin : ∀ ts t W, (Builtin.min_ ts t #[.int .i64 aw, .int .i64 am]).run Tryd.prog W = .ok (.int .i64 mn) W := by
          intro ts t W
          rw [hmn]
          simp [Builtin.min_, Builtin.min2]
          split <;> omega
        have hmax : ∀ ts t W, (Builtin.max_ ts t #[.int .i64 aw, .int .i64 am]).run Tryd.prog W = .ok (.int .i64 mx) W := by
          intro ts t W
          rw [hmx]
          simp [Builtin.max_, Builtin.max2]
          split <;> omega
        have HMN := Hid.mk hmn
        have HMX := Hid.mk hmx
        clear hmn hmx
        cases hq : okFl (l.getD k noF)
        · have HANY := Hid.mk (any_hit (fun x => !okFl x) (by rw [HF.out.len]; exact hlt) (by rw [hq]; rfl))
          rw [← HY.out, HO.out] at hq
          simp only [Bool.and_eq_false_iff, Bool.not_eq_false', decide_eq_true_eq, ← HMN.out, ← HMX.out] at hq
          by_cases h0 : mn < 0
          · cases lo
            all_goals
              clear hq
              go_wp2_with fail
              go_ret
              exact ⟨by rw [badFl_yes HANY.out]; rfl, HB1.out⟩
          · cases lo
            · have h2 : (2047 : Int) < mx := by rcases hq with h | h; exact absurd h h0; exact h
              clear hq
              go_wp2_with fail
              go_ret
              exact ⟨by rw [badFl_yes HANY.out]; rfl, HB1.out⟩
            · have h2 : (536870911 : Int) < mx := by rcases hq with h | h; exact absurd h h0; exact h
              clear hq
              go_wp2_with fail
              go_ret
              exact ⟨by rw [badFl_yes HANY.out]; rfl, HB1.out⟩
        · have HQ := Hid.mk hq
          rw [← HY.out, HO.out] at hq
          simp only [Bool.and_eq_true, Bool.not_eq_true', decide_eq_false_iff_not, ← HMN.out, ← HMX.out] at hq
          obtain ⟨h0, h2⟩ := hq
          cases lo
          · have h3 : mx ≤ (2047 : Int) := by have : topN false = 2047 := rfl; simp only [this] at h2; omega
            have h4 : (0 : Int) ≤ mn := by omega
            clear h0 h2
            go_wp2_with fail
            go_roundw
            case rel =>
              refine ⟨k + 1, by omega, by go_num, Hid.mk fun j hj => ?_, HB1⟩
              by_cases e : j = k
              · subst e; rw [HQ.out]; rfl
              · exact HA.out j (by omega)
            case measure => simp [intOf]; omega
          · have h3 : mx ≤ (536870911 : Int) := by have : topN true = 536870911 := rfl; simp only [this] at h2; omega
            have h4 : (0 : Int) ≤ mn := by omega
            clear h0 h2
            go_wp2_with fail
            go_roundw
            case rel =>
              refine ⟨k + 1, by omega, by go_num, Hid.mk fun j hj => ?_, HB1⟩
              by_cases e : j = k
              · subst e; rw [HQ.out]; rfl
              · exact HA.out j (by omega)
            case measure => simp [intOf]; omega
      · have e : k = n := by omega
        subst e
        have HANY := Hid.mk (any_take (fun x => !okFl x) HF.out.len HA.out)
        go_wp2_with fail
        go_ret
        exact ⟨by rw [badFl_no HANY.out]; rfl, HB.out⟩
end Bw
end Go.Proofs.YtfmjhgggoklaoaaDoor
