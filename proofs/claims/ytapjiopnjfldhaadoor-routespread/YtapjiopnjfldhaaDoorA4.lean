/- What filter.Count answers. -/
import Derived.Test.YtapjiopnjfldhaaDoorA3
import Derived.Shelf.Abstract
import Derived.OwnWalk
import Derived.OneCell
import Derived.Laws.AppendOwn
import Derived.BigQuiet
import Derived.Lib.QuietBelow
namespace Go.Proofs.YtapjiopnjfldhaaDoor
open Go.ChangeShapes Go.WideShapes Go.ChangeAt Go.RowKit
namespace Bw
def noF : Fl := ⟨0, 0, false⟩
/-- filters in a row -/
structure IsFils (w : World) (a : Option Addr) (n cap : Nat) (l : List Fl) : Prop where
  len : l.length = n
  le : n ≤ cap
  max : cap ≤ maxLen
  none : a = none → n = 0
  cell : ∀ x, a = some x → ∀ i, i < n → w.cell? (x.add (i * 3)) = some (.int .i64 (l.getD i noF).w) ∧ w.cell? (x.add (i * 3 + 1)) = some (.int .i64 (l.getD i noF).m) ∧ w.cell? (x.add (i * 3 + 2)) = some (.bool (l.getD i noF).lo)
theorem IsFils.kept {w w' : World} {a : Option Addr} {n cap : Nat} {l : List Fl} (h : IsFils w a n cap l) (hb : Below w.heap.size w w') : IsFils w' a n cap l :=
  ⟨h.len, h.le, h.max, h.none, fun x hx i hi => ⟨cell_kept hb (h.cell x hx i hi).1, cell_kept hb (h.cell x hx i hi).2.1, cell_kept hb (h.cell x hx i hi).2.2⟩⟩
theorem fil_next (x : Addr) (m j : Nat) : x.add (m + (j + 1)) = ⟨(x.add m).block, (x.add m).off + (j + 1), none⟩ := by
  unfold Addr.add
  by_cases h : m = 0
  · subst h; simp
  · simp [h]; omega
theorem fils_at {w : World} {x : Addr} {n cap : Nat} {l : List Fl} (h : IsFils w (some x) n cap l) {i : Nat} (hi : i < n) :
    w.cell? (x.add (i * 3)) = some (.int .i64 (l.getD i noF).w) ∧ w.cell? ⟨(x.add (i * 3)).block, (x.add (i * 3)).off + 1, none⟩ = some (.int .i64 (l.getD i noF).m) ∧ w.cell? ⟨(x.add (i * 3)).block, (x.add (i * 3)).off + 2, none⟩ = some (.bool (l.getD i noF).lo) := by
  have h1 := h.cell x rfl i hi
  rw [← fil_next x (i * 3) 0, ← fil_next x (i * 3) 1]
  exact h1
theorem fils_some {w : World} {a : Option Addr} {n cap : Nat} {l : List Fl} (h : IsFils w a n cap l) {i : Nat} (hi : i < n) : ∃ x, a = some x := by
  cases a with
  | none => exact absurd (h.none rfl) (by omega)
  | some x => exact ⟨x, rfl⟩
theorem getD_mem {l : List Fl} {i : Nat} (h : i < l.length) : l.getD i noF ∈ l := by
  have : l.getD i noF = l[i] := by simp [List.getD, h]
  rw [this]
  exact List.getElem_mem h
theorem any_take {l : List Fl} (p : Fl → Bool) {n : Nat} (h : l.length = n) (hp : ∀ j, j < n → p (l.getD j noF) = false) : l.any p = false := by
  rw [List.any_eq_false]
  intro x hx
  obtain ⟨i, hi, rfl⟩ := List.mem_iff_getElem.1 hx
  have := hp i (by omega)
  simp only [List.getD, List.getElem?_eq_getElem hi, Option.getD_some] at this
  simp [this]
theorem any_hit {l : List Fl} (p : Fl → Bool) {i : Nat} (h : i < l.length) (hp : p (l.getD i noF) = true) : l.any p = true := by
  rw [List.any_eq_true]
  exact ⟨_, getD_mem h, hp⟩
set_option maxHeartbeats 2000000 in
set_option maxRecDepth 100000 in
theorem indexFunc_any (g : Nat) (lb : Array Value) (eg : ∀ args w, (callFunc g args).run Tryd.prog w = .ok (.enter g args) w) (p : Fl → Bool) (a : Option Addr) (n c : Nat) (l : List Fl) (w : World) (hF : IsFils w a n c l)
    (hp : ∀ W x, Below w.heap.size w W → x ∈ l → Calls Tryd.prog g (#[x.val] ++ lb) W fun e w' => e = .returned (.bool (p x)) ∧ Below W.heap.size W w') :
    Calls Tryd.prog 91 #[.slice a n c, .func (.func g) #[] lb] w fun e w' => ∃ r : Int, e = .returned (.int .i64 r) ∧ decide (0 ≤ r) = l.any p ∧ Below w.heap.size w w' := by
  have HF := Hid.mk hF
  have HP := Hid.mk hp
  have hn63 : n ≤ 9223372036854775807 := by have h1 := hF.le; have h2 := hF.max; unfold maxLen at h2; omega
  clear hF hp
  go_enter Tryd.func91, Tryd.ntmps91
  go_wp2_with fail
  go_loopw [8] (fun i wr => ∃ k : Nat, k ≤ n ∧ i = .int .i64 k ∧ Hid (∀ j, j < k → p (l.getD j noF) = false) ∧ Hid (Below w.heap.size w wr)) (fun i _ => n - (intOf i).toNat)
  case atStart => exact ⟨0, Nat.zero_le _, rfl, Hid.mk (fun j hj => absurd hj (Nat.not_lt_zero _)), Hid.mk (Below.refl _ _)⟩
  case round =>
    obtain ⟨k, hk, rfl, HA, HB⟩ := hrel
    by_cases hlt : k < n
    · have hlt' : (k : Int) < (n : Int) := by omega
      obtain ⟨x, rfl⟩ := fils_some HF.out hlt
      obtain ⟨c0, c1, c2⟩ := fils_at (HF.out.kept HB.out) hlt
      have hcall := HP.out wr _ HB.out (getD_mem (by rw [HF.out.len]; exact hlt))
      have HY : Hid (∃ y, y = l.getD k noF) := Hid.mk ⟨_, rfl⟩
      obtain ⟨y, hy⟩ := HY.out
      rw [← hy] at c0 c1 c2 hcall
      have HYY := Hid.mk hy
      unfold Fl.val at hcall
      clear hy HY
      cases hq : p y with
      | true =>
        rw [hq] at hcall
        have HC := Hid.mk hcall
        have HQ := Hid.mk hq
        clear hcall hq
        go_wp2_with (go_at_fn g; refine HC.out.mono ?_; rintro e w1 ⟨rfl, hb1⟩)
        have HB1 := Hid.mk (bl2 HB.out hb1)
        clear hb1
        go_ret
        refine ⟨_, rfl, ?_, HB1.out⟩
        rw [any_hit p (by rw [HF.out.len]; exact hlt) (by rw [← HYY.out]; exact HQ.out)]
        simp
      | false =>
        rw [hq] at hcall
        have HC := Hid.mk hcall
        have HQ := Hid.mk hq
        clear hcall hq
        go_wp2_with (go_at_fn g; refine HC.out.mono ?_; rintro e w1 ⟨rfl, hb1⟩)
        have HB1 := Hid.mk (bl2 HB.out hb1)
        clear hb1
        go_roundw
        case rel =>
          refine ⟨k + 1, by omega, by go_num, Hid.mk fun j hj => ?_, HB1⟩
          by_cases e : j = k
          · subst e; rw [← HYY.out]; exact HQ.out
          · exact HA.out j (by omega)
        case measure => simp [intOf]; omega
    · have e : k = n := by omega
      subst e
      go_wp2_with fail
      go_ret
      refine ⟨-1, rfl, ?_, HB.out⟩
      rw [any_take p HF.out.len HA.out]
      rfl
set_option maxHeartbeats 2000000 in
theorem containsFunc_any (g : Nat) (lb : Array Value) (eg : ∀ args w, (callFunc g args).run Tryd.prog w = .ok (.enter g args) w) (p : Fl → Bool) (a : Option Addr) (n c : Nat) (l : List Fl) (w : World) (hF : IsFils w a n c l)
    (hp : ∀ W x, Below w.heap.size w W → x ∈ l → Calls Tryd.prog g (#[x.val] ++ lb) W fun e w' => e = .returned (.bool (p x)) ∧ Below W.heap.size W w') :
    Calls Tryd.prog 81 #[.slice a n c, .func (.func g) #[] lb] w fun e w' => e = .returned (.bool (l.any p)) ∧ Below w.heap.size w w' := by
  have HI := Hid.mk (indexFunc_any g lb eg p a n c l w hF hp)
  clear hF hp eg
  go_enter Tryd.func81, Tryd.ntmps81
  go_wp2_with fail
  refine HI.out.mono ?_
  rintro e w1 ⟨r, rfl, hr, hb⟩
  have HR := Hid.mk hr
  have HB := Hid.mk hb
  clear hr hb
  go_wp2_with fail
  go_ret
  exact ⟨by rw [← HR.out]; rfl, HB.out⟩
end Bw
end Go.Proofs.YtapjiopnjfldhaaDoor
namespace Go.Proofs.YtapjiopnjfldhaaDoor
open Go.ChangeShapes Go.WideShapes Go.ChangeAt Go.RowKit
namespace Bw
theorem info_fil : (Tryd.prog.info? 43).map (fun i => (i.zero, i.size, i.bytes)) = some (some (.agg #[.int .i64 0, .int .i64 0, .bool false]), 3, 24) := by kernel_rfl
/-- filters as cells -/
def filC (l : List Fn) : List Value := l.flatMap fun x => x.f.cells
theorem filC_append (a b : List Fn) : filC (a ++ b) = filC a ++ filC b := by simp [filC]
theorem filC_one (x : Fn) : filC [x] = [.int .i64 x.w, .int .i64 x.m, .bool x.lo] := by simp [filC, Fn.f, Fl.cells]
theorem filC_len : ∀ l : List Fn, (filC l).length = l.length * 3
  | [] => rfl
  | x :: l => by rw [show x :: l = [x] ++ l from rfl, filC_append, List.length_append, filC_len l, filC_one]; simp; omega
theorem filC_cell : ∀ (l : List Fn) (i : Nat), i < l.length → (filC l)[i * 3]? = some (.int .i64 (l.getD i ⟨0, 0, false⟩).w) ∧ (filC l)[i * 3 + 1]? = some (.int .i64 (l.getD i ⟨0, 0, false⟩).m) ∧ (filC l)[i * 3 + 2]? = some (.bool (l.getD i ⟨0, 0, false⟩).lo)
  | [], i, h => absurd h (Nat.not_lt_zero _)
  | x :: l, i, h => by
    rw [show x :: l = [x] ++ l from rfl, filC_append, filC_one]
    cases i with
    | zero => simp
    | succ i =>
      have ih := filC_cell l i (by simpa using h)
      have e : (i + 1) * 3 = i * 3 + 1 + 1 + 1 := by omega
      rw [e]
      simpa using ih
/-- a row of filters of one's own is a row of filters -/
theorem fils_of {w : World} {base : Nat} {v : Value} {l : List Fn} (h : w.ownsRow base 43 3 v l.length (filC l)) : ∃ a cap, v = .slice a l.length cap ∧ IsFils w a l.length cap (l.map Fn.f) := by
  rcases h.2 with ⟨hv, hn⟩ | ⟨g, cap, cur, hv, _, hh, hc, hm, hsz, htk⟩
  · refine ⟨none, 0, by rw [hv, hn], ?_⟩
    have hl : l = [] := by simpa using hn
    subst hl
    exact ⟨rfl, Nat.le_refl _, Nat.zero_le _, fun _ => rfl, fun x hx => by cases hx⟩
  · refine ⟨_, cap, hv, by simp, hc, hm, (fun h => by cases h), ?_⟩
    intro x hx i hi
    cases hx
    subst hv
    obtain ⟨c0, c1, c2⟩ := filC_cell l i hi
    have hl := h.1
    have ea : ∀ j, (Addr.add ⟨g, 0, none⟩ j) = ⟨g, j, none⟩ := by intro j; simp [Addr.add]; exact fun h => h.symm
    have eg : (l.map Fn.f).getD i noF = (l.getD i ⟨0, 0, false⟩).f := by simp [List.getD, hi]
    have hcell := h.cells (g := g) rfl
    rw [eg]
    exact ⟨hcell _ _ c0, hcell _ _ c1, hcell _ _ c2⟩
def rngB (low high : Int) (lo : Bool) : Bool := decide (0 ≤ low ∧ low ≤ high ∧ high ≤ topN lo)
def rngE (low high : Int) (lo : Bool) : Int := if rngB low high lo = true then 0 else 3
def rngO (low high : Int) (lo : Bool) : List Fn := if rngB low high lo = true then rngN lo high.toNat low.toNat else []
theorem rng_no {low high : Int} {lo : Bool} (h : ¬ (0 ≤ low ∧ low ≤ high ∧ high ≤ topN lo)) : rngE low high lo = 3 ∧ rngO low high lo = [] := by
  have : rngB low high lo = false := by unfold rngB; simpa using h
  unfold rngE rngO
  rw [this]
  exact ⟨rfl, rfl⟩
theorem mask_rng (lo : Bool) (low high : Nat) (h : low ≤ high) (hh : high ≤ topN lo) : bits .andNot .i64 (topN lo : Int) (((2 ^ grX low high : Nat) : Int) - 1) = ((topN lo - (2 ^ grX low high - 1) : Nat) : Int) := by
  obtain ⟨_, h2⟩ := grX_spec h
  have ht := topN_le lo
  have hp := Nat.two_pow_pos (grX low high)
  have hlt := topN_lt lo
  generalize 2 ^ grX low high = q at *
  rw [show (q : Int) - 1 = ((q - 1 : Nat) : Int) by omega, andnot_i64 _ _ (by omega) (by omega), topN_eq, andnot_top _ _ (by omega)]
end Bw
end Go.Proofs.YtapjiopnjfldhaaDoor
namespace Go.Proofs.YtapjiopnjfldhaaDoor
open Go.ChangeShapes Go.WideShapes Go.ChangeAt Go.RowKit
namespace Bw
def badFl (l : List Fl) : Int := if l.any (fun x => !okFl x) = true then 3 else 0
theorem badFl_yes {l : List Fl} (h : l.any (fun x => !okFl x) = true) : badFl l = 3 := by unfold badFl; rw [if_pos h]
theorem badFl_no {l : List Fl} (h : l.any (fun x => !okFl x) = false) : badFl l = 0 := by unfold badFl; rw [h]; rfl
def chkFl (l : List Fl) : Int := if 16 < l.length then 2 else badFl l
theorem chkFl_zero {l : List Fl} (h : chkFl l = 0) : l.length ≤ 16 ∧ ∀ x ∈ l, okFl x = true := by
  unfold chkFl badFl at h
  split at h
  · cases h
  · split at h
    · cases h
    · rename_i h1 h2
      refine ⟨by omega, fun x hx => ?_⟩
      rw [Bool.not_eq_true, List.any_eq_false] at h2
      simpa using h2 x hx
theorem chkFl_cases (l : List Fl) : chkFl l = 0 ∨ chkFl l = 2 ∨ chkFl l = 3 := by
  unfold chkFl badFl
  split
  · simp
  · split <;> simp
set_option maxHeartbeats 2000000 in
theorem fcheck_any (a : Option Addr) (n c : Nat) (l : List Fl) (w : World) (hF : IsFils w a n c l) (hL : LastsAt w) :
    Calls Tryd.prog 57 #[.slice a n c] w fun e w' => e = .returned (.int .i64 (chkFl l)) ∧ Below w.heap.size w w' := by
  have HC := Hid.mk (containsFunc_any 82 #[] (enters_of Tryd.func82 (by kernel_rfl) rfl) (fun x => !okFl x) a n c l w hF (fun W x hb _ => isWrong_any x W (hL.kept hb)))
  have hlen := hF.len
  unfold chkFl
  rw [hlen]
  clear hF hL hlen
  by_cases hn : 16 < n
  · rw [if_pos hn]
    have hn' : (16 : Int) < (n : Int) := by omega
    go_enter Tryd.func57, Tryd.ntmps57
    go_wp2_with fail
    go_ret
    exact ⟨rfl, Below.refl _ _⟩
  · rw [if_neg hn]
    have hn' : (n : Int) ≤ 16 := by omega
    cases hq : l.any (fun x => !okFl x)
    · rw [hq] at HC
      rw [badFl_no hq]
      go_enter Tryd.func57, Tryd.ntmps57
      go_wp2_with fail
      refine HC.out.mono ?_
      rintro e w1 ⟨rfl, hb1⟩
      go_wp2_with fail
      go_ret
      exact ⟨rfl, hb1⟩
    · rw [hq] at HC
      rw [badFl_yes hq]
      go_enter Tryd.func57, Tryd.ntmps57
      go_wp2_with fail
      refine HC.out.mono ?_
      rintro e w1 ⟨rfl, hb1⟩
      go_wp2_with fail
      go_ret
      exact ⟨rfl, hb1⟩
theorem okFl_min (x : Fl) (t : Int) (h : t = topN x.lo) : okFl x = (!decide (min x.w x.m < 0) && !decide (t < max x.w x.m)) := by
  subst h
  unfold okFl
  rw [Bool.eq_iff_iff]
  simp only [decide_eq_true_eq, Bool.and_eq_true, Bool.not_eq_true', decide_eq_false_iff_not]
  omega
set_option maxHeartbeats 4000000 in
set_option maxRecDepth 100000 in
theorem checkFilters_any (a : Option Addr) (n c : Nat) (l : List Fl) (w : World) (hF : IsFils w a n c l) :
    Calls Tryd.prog 33 #[.slice a n c] w fun e w' => e = .returned (.int .i64 (chkFl l)) ∧ Below w.heap.size w w' := by
  have HF := Hid.mk hF
  have hlen := hF.len
  unfold chkFl
  rw [hlen]
  clear hF hlen
  by_cases hn : 16 < n
  · rw [if_pos hn]
    have hn' : (16 : Int) < (n : Int) := by omega
    go_enter Tryd.func33, Tryd.ntmps33
    go_wp2_with fail
    go_ret
    exact ⟨rfl, Below.refl _ _⟩
  · rw [if_neg hn]
    have hn' : (n : Int) ≤ 16 := by omega
    go_enter Tryd.func33, Tryd.ntmps33
    go_wp2_with fail
    go_loopw [11] (fun i wr => ∃ k : Nat, k ≤ n ∧ i = .int .i64 k ∧ Hid (∀ j, j < k → (!okFl (l.getD j noF)) = false) ∧ Hid (Below w.heap.size w wr)) (fun i _ => n - (intOf i).toNat)
    case atStart => exact ⟨0, Nat.zero_le _, rfl, Hid.mk (fun j hj => absurd hj (Nat.not_lt_zero _)), Hid.mk (Below.refl _ _)⟩
    case round =>
      obtain ⟨k, hk, rfl, HA, HB⟩ := hrel
      by_cases hlt : k < n
      · have hlt' : (k : Int) < (n : Int) := by omega
        obtain ⟨x, rfl⟩ := fils_some HF.out hlt
        obtain ⟨c0, c1, c2⟩ := fils_at (HF.out.kept HB.out) hlt
        obtain ⟨y, hy⟩ : ∃ y, y = l.getD k noF := ⟨_, rfl⟩
        rw [← hy] at c0 c1 c2
        have HY := Hid.mk hy
        have HB1 := Hid.mk (bl2 HB.out (box1_below wr y))
        have HO := Hid.mk (okFl_min y _ rfl)
        unfold box1 at HB1
        clear hy
        obtain ⟨aw, am, lo⟩ := y
        simp only at c0 c1 c2
        obtain ⟨mn, hmn⟩ : ∃ mn, mn = min aw am := ⟨_, rfl⟩
        obtain ⟨mx, hmx⟩ : ∃ mx, mx = max aw am := ⟨_, rfl⟩
        have hmin : ∀ ts t W, (Builtin.min_ ts t #[.int .i64 aw, .int .i64 am]).run Tryd.prog W = .ok (.int .i64 mn) W := by
          intro ts t W
          rw [hmn]
          simp [Builtin.min_, Builtin.min2]
          split <;> omega
        have hmax : ∀ ts t W, (Builtin.max_ ts t #[.int .i64 aw, .int .i64 am]).run Tryd.prog W = .ok (.int .i64 mx) W := by
          intro ts t W
          rw [hmx]
          simp [Builtin.max_, Builtin.max2]
          split <;> omega
        have HMN := Hid.mk hmn
        have HMX := Hid.mk hmx
        clear hmn hmx
        cases hq : okFl (l.getD k noF)
        · have HANY := Hid.mk (any_hit (fun x => !okFl x) (by rw [HF.out.len]; exact hlt) (by rw [hq]; rfl))
          rw [← HY.out, HO.out] at hq
          simp only [Bool.and_eq_false_iff, Bool.not_eq_false', decide_eq_true_eq, ← HMN.out, ← HMX.out] at hq
          by_cases h0 : mn < 0
          · cases lo
            all_goals
              clear hq
              go_wp2_with fail
              go_ret
              exact ⟨by rw [badFl_yes HANY.out]; rfl, HB1.out⟩
          · cases lo
            · have h2 : (2047 : Int) < mx := by rcases hq with h | h; exact absurd h h0; exact h
              clear hq
              go_wp2_with fail
              go_ret
              exact ⟨by rw [badFl_yes HANY.out]; rfl, HB1.out⟩
            · have h2 : (536870911 : Int) < mx := by rcases hq with h | h; exact absurd h h0; exact h
              clear hq
              go_wp2_with fail
              go_ret
              exact ⟨by rw [badFl_yes HANY.out]; rfl, HB1.out⟩
        · have HQ := Hid.mk hq
          rw [← HY.out, HO.out] at hq
          simp only [Bool.and_eq_true, Bool.not_eq_true', decide_eq_false_iff_not, ← HMN.out, ← HMX.out] at hq
          obtain ⟨h0, h2⟩ := hq
          cases lo
          · have h3 : mx ≤ (2047 : Int) := by have : topN false = 2047 := rfl; simp only [this] at h2; omega
            have h4 : (0 : Int) ≤ mn := by omega
            clear h0 h2
            go_wp2_with fail
            go_roundw
            case rel =>
              refine ⟨k + 1, by omega, by go_num, Hid.mk fun j hj => ?_, HB1⟩
              by_cases e : j = k
              · subst e; rw [HQ.out]; rfl
              · exact HA.out j (by omega)
            case measure => simp [intOf]; omega
          · have h3 : mx ≤ (536870911 : Int) := by have : topN true = 536870911 := rfl; simp only [this] at h2; omega
            have h4 : (0 : Int) ≤ mn := by omega
            clear h0 h2
            go_wp2_with fail
            go_roundw
            case rel =>
              refine ⟨k + 1, by omega, by go_num, Hid.mk fun j hj => ?_, HB1⟩
              by_cases e : j = k
              · subst e; rw [HQ.out]; rfl
              · exact HA.out j (by omega)
            case measure => simp [intOf]; omega
      · have e : k = n := by omega
        subst e
        have HANY := Hid.mk (any_take (fun x => !okFl x) HF.out.len HA.out)
        go_wp2_with fail
        go_ret
        exact ⟨by rw [badFl_no HANY.out]; rfl, HB.out⟩
end Bw
end Go.Proofs.YtapjiopnjfldhaaDoor
namespace Go.Proofs.YtapjiopnjfldhaaDoor
open Go.ChangeShapes Go.WideShapes Go.ChangeAt Go.RowKit Go.Sort
namespace Bw
/-- a filter in a block of its own -/
structure FlAt (w : World) (g : Nat) (x : Fl) : Prop where
  c0 : w.cell? ⟨g, 0, none⟩ = some (.int .i64 x.w)
  c1 : w.cell? ⟨g, 1, none⟩ = some (.int .i64 x.m)
  c2 : w.cell? ⟨g, 2, none⟩ = some (.bool x.lo)
theorem FlAt.kept {w w' : World} {g : Nat} {x : Fl} (h : FlAt w g x) (hb : Below w.heap.size w w') : FlAt w' g x := ⟨cell_kept hb h.c0, cell_kept hb h.c1, cell_kept hb h.c2⟩
theorem FlAt.box (w : World) (x : Fl) : FlAt (box1 w x) w.heap.size x := by
  have h := heap_alloc_new w (.cells #[.int .i64 x.w, .int .i64 x.m, .bool x.lo] 43)
  exact ⟨cell_of_row _ _ 0 _ _ _ h, cell_of_row _ _ 1 _ _ _ h, cell_of_row _ _ 2 _ _ _ h⟩
theorem FlAt.regrown {w : World} {g : Nat} {x : Fl} (h : FlAt w g x) (d : Nat) (os : Array Obj) : FlAt (grow (redrawn w d) os) g x := h.kept (below_regrown w d os)
theorem IsFils.regrown {w : World} {a : Option Addr} {n cap : Nat} {l : List Fl} (h : IsFils w a n cap l) (d : Nat) (os : Array Obj) : IsFils (grow (redrawn w d) os) a n cap l := h.kept (below_regrown w d os)
theorem LastsAt.regrown {w : World} (h : LastsAt w) (d : Nat) (os : Array Obj) : LastsAt (grow (redrawn w d) os) := h.kept (below_regrown w d os)
theorem map_getD (l : List Fn) (i : Nat) (h : i < l.length) : (l.map Fn.f).getD i noF = (l.getD i ⟨0, 0, false⟩).f := by simp [List.getD, h]
theorem drop_at (l : List Fn) (i : Nat) (h : i < l.length) : l.drop i = l.getD i ⟨0, 0, false⟩ :: l.drop (i + 1) := by
  rw [List.drop_eq_getElem_cons h]
  simp [List.getD, h]
/-- right filters are such -/
theorem fn_of : ∀ {l : List Fl}, (∀ x ∈ l, okFl x = true) → ∃ ns : List Fn, l = ns.map Fn.f ∧ ∀ x ∈ ns, okN x
  | [], _ => ⟨[], rfl, fun x hx => by cases hx⟩
  | x :: l, h => by
    obtain ⟨ns, h1, h2⟩ := fn_of (l := l) fun y hy => h y (List.mem_cons_of_mem _ hy)
    have hx := h x List.mem_cons_self
    unfold okFl at hx
    simp only [decide_eq_true_eq] at hx
    obtain ⟨a, m, lo⟩ := x
    simp only at hx
    obtain ⟨a, rfl⟩ := Int.eq_ofNat_of_zero_le hx.1
    obtain ⟨m, rfl⟩ := Int.eq_ofNat_of_zero_le hx.2.1
    refine ⟨⟨a, m, lo⟩ :: ns, by rw [h1]; rfl, ?_⟩
    intro y hy
    rcases List.mem_cons.1 hy with rfl | hy
    · exact ⟨by simp only; omega, by simp only; omega⟩
    · exact h2 y hy
theorem okFl_f {x : Fn} (h : okN x) : okFl x.f = true := by
  unfold okFl Fn.f
  simp only [decide_eq_true_eq]
  have h1 := h.w
  have h2 := h.m
  omega
theorem chk_ok {l : List Fn} (h : ∀ x ∈ l, okN x) (hn : l.length ≤ 16) : chkFl (l.map Fn.f) = 0 := by
  unfold chkFl
  rw [List.length_map, if_neg (by omega)]
  apply badFl_no
  rw [List.any_eq_false]
  intro x hx
  obtain ⟨y, hy, rfl⟩ := List.mem_map.1 hx
  rw [okFl_f (h y hy)]
  decide
/-- a value in a block of its own -/
theorem cell_new (w : World) (v : Value) (t : TypeId) : (w.alloc (.cells #[v] t)).cell? ⟨w.heap.size, 0, none⟩ = some v := cell_of_row _ _ 0 _ _ _ (heap_alloc_new w _)
theorem boxv_below (w : World) (v : Value) (t : TypeId) : Below w.heap.size w (w.alloc (.cells #[v] t)) := (Below.refl _ _).alloc (Nat.le_refl _) _
/-- a function's value laid into its variable -/
theorem store_fn (w : World) (f : Nat) (lb : Array Value) (t : TypeId) : (store ⟨w.heap.size, 0, none⟩ (.func (.func f) #[] lb)).run Tryd.prog (w.alloc (.cells #[.nilFunc] t)) = .ok () (w.alloc (.cells #[.func (.func f) #[] lb] t)) := by
  rw [run_store _ _ _ _ _ rfl]
  simp [go_sem]
end Bw
end Go.Proofs.YtapjiopnjfldhaaDoor
