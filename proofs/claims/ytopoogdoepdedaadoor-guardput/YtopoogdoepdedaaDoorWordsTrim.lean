/- What omnibusbig's trim and words answer: the words without noughts at the end; the words of a number. -/
import Derived.Test.YtopoogdoepdedaaDoorWordsMath
import Derived.Test.YtopoogdoepdedaaDoorBase8
namespace Go.Proofs.YtopoogdoepdedaaDoor
open Go.ChangeShapes Go.WideShapes Go.ChangeAt Go.RowKit
namespace Ww
open Wm

theorem Hid.mk {p : Prop} (h : p) : Hid p := h
def IsW (w : World) (v : Value) (xs : List Nat) : Prop :=
  ∃ a c, v = .slice a xs.length c ∧ xs.length ≤ c ∧ c ≤ maxLen ∧ (a = none → xs.length = 0) ∧ (∀ x, a = some x → ∀ i, i < xs.length → w.cell? (x.add i) = some (.int .u32 (xs.getD i 0))) ∧ okW xs

theorem IsW.below {w w' : World} {v : Value} {xs : List Nat} (h : IsW w v xs) (hb : Below w.heap.size w w') : IsW w' v xs := by
  obtain ⟨a, c, h1, h2, h3, h4, h5, h6⟩ := h
  exact ⟨a, c, h1, h2, h3, h4, fun x hx i hi => Bw.cell_kept hb (h5 x hx i hi), h6⟩
theorem isW_nil (w : World) : IsW w (.slice none 0 0) [] := ⟨none, 0, rfl, Nat.le_refl _, Nat.zero_le _, (fun _ => rfl), (fun x hx => by cases hx), (fun x hx => by cases hx)⟩

theorem isW_take {w : World} {a : Option Addr} {n c k : Nat} {xs : List Nat} (hk : k ≤ xs.length) (hn : n = xs.length) (hc : n ≤ c) (hm : c ≤ maxLen) (hnil : a = none → xs.length = 0)
    (hcells : ∀ x, a = some x → ∀ i, i < xs.length → w.cell? (x.add i) = some (.int .u32 (xs.getD i 0))) (hok : okW xs) : IsW w (.slice a k c) (xs.take k) := by
  have hlen : (xs.take k).length = k := by rw [List.length_take]; omega
  refine ⟨a, c, by rw [hlen], by omega, hm, fun h => by have := hnil h; omega, fun x hx i hi => ?_, okW_take hok k⟩
  rw [hlen] at hi
  rw [hcells x hx i (by omega)]
  simp [List.getD, hi]
theorem trim_at {xs : List Nat} {q z : Nat} (hq : q < xs.length) (hz : xs.getD q 0 = z) (h0 : ¬ z = 0) : (xs.take (q + 1)).getD ((xs.take (q + 1)).length - 1) 0 ≠ 0 := by
  have hlen : (xs.take (q + 1)).length = q + 1 := by rw [List.length_take]; omega
  rw [hlen, Nat.add_sub_cancel, show (xs.take (q + 1)).getD q 0 = xs.getD q 0 by simp [List.getD]]
  omega

set_option maxHeartbeats 2000000 in
theorem trim_any (v : Value) (xs : List Nat) (w : World) (h : IsW w v xs) (hl : xs.length ≤ 100000) :
    Calls Tryd.prog 71 #[v] w fun e w' => ∃ v' ys, e = .returned v' ∧ IsW w v' ys ∧ valW ys = valW xs ∧ trimW ys ∧ ys.length ≤ xs.length ∧ w' = w := by
  obtain ⟨a, c, rfl, hc, hm, hnil, hcells, hok⟩ := h
  have HC := Hid.mk hcells
  have HN := Hid.mk hnil
  have HO := Hid.mk hok
  have HM := Hid.mk hm
  obtain ⟨n, hn⟩ : ∃ n, n = xs.length := ⟨_, rfl⟩
  rw [← hn] at hl hc ⊢
  have HL := Hid.mk hn
  have hc' : (n : Int) ≤ (c : Int) := by omega
  have hcm : (c : Int) ≤ 9223372036854775807 := by unfold maxLen at hm; omega
  clear hcells hnil hok hn hm
  go_enter Tryd.func71, Tryd.ntmps71
  go_wp2_with fail
  go_loop [3] (fun i => ∃ k : Nat, k ≤ n ∧ i = .int .i64 k ∧ valW (xs.take k) = valW xs) (fun i => (intOf i).toNat)
  case atStart => exact ⟨n, Nat.le_refl _, rfl, by rw [List.take_of_length_le (by have := HL.out; omega)]⟩
  case round =>
    obtain ⟨k, hk, rfl, hv⟩ := hrel
    have HV := Hid.mk hv
    clear hv
    by_cases h0 : k = 0
    · subst h0
      go_wp2_with fail
      go_ret
      exact ⟨_, rfl, xs.take 0, isW_take (by have := HL.out; omega) HL.out hc HM.out HN.out HC.out HO.out, HV.out, Or.inl rfl, by simp, rfl⟩
    · obtain ⟨q, rfl⟩ : ∃ q, k = q + 1 := ⟨k - 1, by omega⟩
      cases a with
      | none => exact absurd (HN.out rfl) (by have := HL.out; omega)
      | some x =>
        have hcell := HC.out x rfl q (by have := HL.out; omega)
        have hq : (q : Int) < (n : Int) := by omega
        by_cases hz : xs.getD q 0 = 0
        · rw [hz] at hcell
          have HZ := Hid.mk hz
          clear hz h0
          go_wp2_with fail
          go_round
          case rel => exact ⟨q, by omega, by go_num, by rw [← take_step xs q (by have := HL.out; omega) HZ.out]; exact HV.out⟩
          case measure => simp [intOf]
        · generalize hzz : xs.getD q 0 = z at *
          have hz' : ((z : Int) == 0) = false := by simp; omega
          have HZ := Hid.mk hzz
          have HZ0 := Hid.mk hz
          clear hzz hz h0
          go_wp2_with fail
          go_ret
          exact ⟨_, rfl, xs.take (q + 1), isW_take (by have := HL.out; omega) HL.out hc HM.out HN.out HC.out HO.out, HV.out, Or.inr (trim_at (by have := HL.out; omega) HZ.out HZ0.out), by rw [List.length_take]; omega, rfl⟩

theorem ownsW {w : World} {g n : Nat} {xs : List Nat} {cur : Array Value} {t : TypeId} {fz : Nat × Nat} (hh : w.heap[g]? = some (.cells cur t fz)) (hn : xs.length = n) (hm : n ≤ maxLen)
    (hc : ∀ i, i < n → cur[i]? = some (.int .u32 (xs.getD i 0))) (hok : okW xs) : IsW w (.slice (some ⟨g, 0, none⟩) n n) xs := by
  subst hn
  refine ⟨_, _, rfl, Nat.le_refl _, hm, (fun h => by cases h), fun x hx i hi => ?_, hok⟩
  cases hx
  rw [Addr.add_lit, Nat.zero_add, cell_of_row w g i cur t fz hh]
  exact hc i hi

set_option maxHeartbeats 1000000 in
theorem words_any (x : Nat) (w : World) (h : x < 2 ^ 63) :
    Calls Tryd.prog 52 #[.int .u64 x] w fun e w' => ∃ v' ys, e = .returned v' ∧ IsW w' v' ys ∧ valW ys = x ∧ trimW ys ∧ ys.length ≤ 2 ∧ Below w.heap.size w w' := by
  have h' : (x : Int) < 9223372036854775808 := by omega
  have H := Hid.mk h
  clear h
  go_enter Tryd.func52, Tryd.ntmps52
  go_wp2_with fail
  have hok : okW [x % 4294967296, x / 4294967296] := by
    intro y hy
    have := H.out
    simp at hy
    rcases hy with rfl | rfl <;> omega
  have hW : IsW (w.alloc (Obj.cells #[Value.int IntKind.u32 ((x : Int) % 4294967296), Value.int IntKind.u32 ((x : Int) / 4294967296)] 99)) (.slice (some ⟨w.heap.size, 0, none⟩) 2 2) [x % 4294967296, x / 4294967296] := by
    refine ownsW (heap_alloc_new w _) rfl (by unfold maxLen; omega) (fun i hi => ?_) hok
    match i, hi with
    | 0, _ => simp
    | 1, _ => simp
  refine (trim_any _ _ _ hW (by show 2 ≤ 100000; omega)).mono ?_
  rintro e w1 ⟨v', ys, rfl, hy, hv, ht, hl, rfl⟩
  clear hW hok
  go_wp2_with fail
  go_ret
  exact ⟨_, ys, rfl, hy, by rw [hv]; simp [valW]; omega, ht, hl, (Below.refl _ _).alloc (Nat.le_refl _) _⟩
end Ww
end Go.Proofs.YtopoogdoepdedaaDoor
