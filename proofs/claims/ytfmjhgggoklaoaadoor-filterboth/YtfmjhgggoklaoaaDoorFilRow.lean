/- Filters that lie in a row; slices.IndexFunc and slices.ContainsFunc of them. -/
import Derived.Test.YtfmjhgggoklaoaaDoorFilWrong
import Derived.Shelf.Abstract
namespace Go.Proofs.YtfmjhgggoklaoaaDoor
open Go.ChangeShapes Go.WideShapes Go.ChangeAt Go.RowKit
namespace Bw
def noF : Fl := ⟨0, 0, false⟩
/-- filters in a row -/
structure IsFils (w : World) (a : Option Addr) (n cap : Nat) (l : List Fl) : Prop where
  len : l.length = n
  le : n ≤ cap
  max : cap ≤ maxLen
  none : a = none → n = 0
  cell : ∀ x, a = some x → ∀ i, i < n → w.cell? (x.add (i * 3)) = some (.int .i64 (l.getD i noF).w) ∧ w.cell? (x.add (i * 3 + 1)) = some (.int .i64 (l.getD i noF).m) ∧ w.cell? (x.add (i * 3 + 2)) = some (.bool (l.getD i noF).lo)
theorem IsFils.kept {w w' : World} {a : Option Addr} {n cap : Nat} {l : List Fl} (h : IsFils w a n cap l) (hb : Below w.heap.size w w') : IsFils w' a n cap l :=
  ⟨h.len, h.le, h.max, h.none, fun x hx i hi => ⟨cell_kept hb (h.cell x hx i hi).1, cell_kept hb (h.cell x hx i hi).2.1, cell_kept hb (h.cell x hx i hi).2.2⟩⟩
theorem fil_next (x : Addr) (m j : Nat) : x.add (m + (j + 1)) = ⟨(x.add m).block, (x.add m).off + (j + 1), none⟩ := by
  unfold Addr.add
  by_cases h : m = 0
  · subst h; simp
  · simp [h]; omega
theorem fils_at {w : World} {x : Addr} {n cap : Nat} {l : List Fl} (h : IsFils w (some x) n cap l) {i : Nat} (hi : i < n) :
    w.cell? (x.add (i * 3)) = some (.int .i64 (l.getD i noF).w) ∧ w.cell? ⟨(x.add (i * 3)).block, (x.add (i * 3)).off + 1, none⟩ = some (.int .i64 (l.getD i noF).m) ∧ w.cell? ⟨(x.add (i * 3)).block, (x.add (i * 3)).off + 2, none⟩ = some (.bool (l.getD i noF).lo) := by
  have h1 := h.cell x rfl i hi
  rw [← fil_next x (i * 3) 0, ← fil_next x (i * 3) 1]
  exact h1
theorem fils_some {w : World} {a : Option Addr} {n cap : Nat} {l : List Fl} (h : IsFils w a n cap l) {i : Nat} (hi : i < n) : ∃ x, a = some x := by
  cases a with
  | none => exact absurd (h.none rfl) (by omega)
  | some x => exact ⟨x, rfl⟩
theorem getD_mem {l : List Fl} {i : Nat} (h : i < l.length) : l.getD i noF ∈ l := by
  have : l.getD i noF = l[i] := by simp [List.getD, h]
  rw [this]
  exact List.getElem_mem h
theorem any_take {l : List Fl} (p : Fl → Bool) {n : Nat} (h : l.length = n) (hp : ∀ j, j < n → p (l.getD j noF) = false) : l.any p = false := by
  rw [List.any_eq_false]
  intro x hx
  obtain ⟨i, hi, rfl⟩ := List.mem_iff_getElem.1 hx
  have := hp i (by omega)
  simp only [List.getD, List.getElem?_eq_getElem hi, Option.getD_some] at this
  simp [this]
theorem any_hit {l : List Fl} (p : Fl → Bool) {i : Nat} (h : i < l.length) (hp : p (l.getD i noF) = true) : l.any p = true := by
  rw [List.any_eq_true]
  exact ⟨_, getD_mem h, hp⟩
set_option maxHeartbeats 2000000 in
set_option maxRecDepth 100000 in
theorem indexFunc_any (g : Nat) (lb : Array Value) (eg : ∀ args w, (callFunc g args).run Tryd.prog w = .ok (.enter g args) w) (p : Fl → Bool) (a : Option Addr) (n c : Nat) (l : List Fl) (w : World) (hF : IsFils w a n c l)
    (hp : ∀ W x, Below w.heap.size w W → x ∈ l → Calls Tryd.prog g (#[x.val] ++ lb) W fun e w' => e = .returned (.bool (p x)) ∧ Below W.heap.size W w') :
    Calls Tryd.prog 36 #[.slice a n c, .func (.func g) #[] lb] w fun e w' => ∃ r : Int, e = .returned (.int .i64 r) ∧ decide (0 ≤ r) = l.any p ∧ Below w.heap.size w w' := by
  have HF := Hid.mk hF
  have HP := Hid.mk hp
  have hn63 : n ≤ 9223372036854775807 := by have h1 := hF.le; have h2 := hF.max; unfold maxLen at h2; omega
  clear hF hp
  go_enter Tryd.func36, Tryd.ntmps36
  go_wp2_with fail
  go_loopw [8] (fun i wr => ∃ k : Nat, k ≤ n ∧ i = .int .i64 k ∧ Hid (∀ j, j < k → p (l.getD j noF) = false) ∧ Hid (Below w.heap.size w wr)) (fun i _ => n - (intOf i).toNat)
  case atStart => exact ⟨0, Nat.zero_le _, rfl, Hid.mk (fun j hj => absurd hj (Nat.not_lt_zero _)), Hid.mk (Below.refl _ _)⟩
  case round =>
    obtain ⟨k, hk, rfl, HA, HB⟩ := hrel
    by_cases hlt : k < n
    · have hlt' : (k : Int) < (n : Int) := by omega
      obtain ⟨x, rfl⟩ := fils_some HF.out hlt
      obtain ⟨c0, c1, c2⟩ := fils_at (HF.out.kept HB.out) hlt
      have hcall := HP.out wr _ HB.out (getD_mem (by rw [HF.out.len]; exact hlt))
      have HY : Hid (∃ y, y = l.getD k noF) := Hid.mk ⟨_, rfl⟩
      obtain ⟨y, hy⟩ := HY.out
      rw [← hy] at c0 c1 c2 hcall
      have HYY := Hid.mk hy
      unfold Fl.val at hcall
      clear hy HY
      cases hq : p y with
      | true =>
        rw [hq] at hcall
        have HC := Hid.mk hcall
        have HQ := Hid.mk hq
        clear hcall hq
        go_wp2_with (go_at_fn g; refine HC.out.mono ?_; rintro e w1 ⟨rfl, hb1⟩)
        have HB1 := Hid.mk (bl2 HB.out hb1)
        clear hb1
        go_ret
        refine ⟨_, rfl, ?_, HB1.out⟩
        rw [any_hit p (by rw [HF.out.len]; exact hlt) (by rw [← HYY.out]; exact HQ.out)]
        simp
      | false =>
        rw [hq] at hcall
        have HC := Hid.mk hcall
        have HQ := Hid.mk hq
        clear hcall hq
        go_wp2_with (go_at_fn g; refine HC.out.mono ?_; rintro e w1 ⟨rfl, hb1⟩)
        have HB1 := Hid.mk (bl2 HB.out hb1)
        clear hb1
        go_roundw
        case rel =>
          refine ⟨k + 1, by omega, by go_num, Hid.mk fun j hj => ?_, HB1⟩
          by_cases e : j = k
          · subst e; rw [← HYY.out]; exact HQ.out
          · exact HA.out j (by omega)
        case measure => simp [intOf]; omega
    · have e : k = n := by omega
      subst e
      go_wp2_with fail
      go_ret
      refine ⟨-1, rfl, ?_, HB.out⟩
      rw [any_take p HF.out.len HA.out]
      rfl
set_option maxHeartbeats 2000000 in
theorem containsFunc_any (g : Nat) (lb : Array Value) (eg : ∀ args w, (callFunc g args).run Tryd.prog w = .ok (.enter g args) w) (p : Fl → Bool) (a : Option Addr) (n c : Nat) (l : List Fl) (w : World) (hF : IsFils w a n c l)
    (hp : ∀ W x, Below w.heap.size w W → x ∈ l → Calls Tryd.prog g (#[x.val] ++ lb) W fun e w' => e = .returned (.bool (p x)) ∧ Below W.heap.size W w') :
    Calls Tryd.prog 20 #[.slice a n c, .func (.func g) #[] lb] w fun e w' => e = .returned (.bool (l.any p)) ∧ Below w.heap.size w w' := by
  have HI := Hid.mk (indexFunc_any g lb eg p a n c l w hF hp)
  clear hF hp eg
  go_enter Tryd.func20, Tryd.ntmps20
  go_wp2_with fail
  refine HI.out.mono ?_
  rintro e w1 ⟨r, rfl, hr, hb⟩
  have HR := Hid.mk hr
  have HB := Hid.mk hb
  clear hr hb
  go_wp2_with fail
  go_ret
  exact ⟨by rw [← HR.out]; rfl, HB.out⟩
end Bw
end Go.Proofs.YtfmjhgggoklaoaaDoor
