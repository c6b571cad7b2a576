/- omnibusbig's words, whole numbers and fractions (joined). -/
import Derived.WalkKit
import Derived.Test.YtjgliinpaadbnaaGreatDoorBase8
import Derived.Lib.SliceRun
import Derived.Deep.RegionHeld3
import Derived.Test.YtjgliinpaadbnaaGreatDoorBase0
import Derived.Lib.QuietBelow
import Derived.Test.YtjgliinpaadbnaaGreatDoorSigMath
namespace Go.Proofs.YtjgliinpaadbnaaGreatDoor.Wm

def valW : List Nat → Nat
  | [] => 0
  | x :: xs => x + 4294967296 * valW xs
def okW (xs : List Nat) : Prop := ∀ x ∈ xs, x < 4294967296
def trimW (xs : List Nat) : Prop := xs = [] ∨ xs.getD (xs.length - 1) 0 ≠ 0

theorem valW_append (a b : List Nat) : valW (a ++ b) = valW a + 2 ^ (32 * a.length) * valW b := by
  induction a with
  | nil => simp [valW]
  | cons x a ih =>
    rw [List.cons_append, valW, ih, valW, List.length_cons, Nat.mul_add, Nat.mul_add, Nat.pow_add, Nat.mul_one]
    have e : (2 : Nat) ^ 32 = 4294967296 := rfl
    rw [e]
    have : 4294967296 * (2 ^ (32 * a.length) * valW b) = 2 ^ (32 * a.length) * 4294967296 * valW b := by
      rw [← Nat.mul_assoc, Nat.mul_comm 4294967296]
    omega
theorem valW_snoc (a : List Nat) (x : Nat) : valW (a ++ [x]) = valW a + 2 ^ (32 * a.length) * x := by
  rw [valW_append]; simp [valW]
theorem valW_lt (a : List Nat) (h : okW a) : valW a < 2 ^ (32 * a.length) := by
  induction a with
  | nil => simp [valW]
  | cons x a ih =>
    have h1 := ih (fun y hy => h y (List.mem_cons_of_mem _ hy))
    have h2 := h x (List.mem_cons_self)
    rw [valW, List.length_cons, Nat.mul_add, Nat.pow_add]
    have e : (2 : Nat) ^ (32 * 1) = 4294967296 := rfl
    rw [e]
    omega
theorem okW_append {a b : List Nat} (ha : okW a) (hb : okW b) : okW (a ++ b) := by
  intro x hx
  rcases List.mem_append.1 hx with h | h
  · exact ha x h
  · exact hb x h
theorem okW_take {a : List Nat} (h : okW a) (k : Nat) : okW (a.take k) := fun x hx => h x (List.mem_of_mem_take hx)
theorem okW_getD {a : List Nat} (h : okW a) (i : Nat) : a.getD i 0 < 4294967296 := by
  by_cases hi : i < a.length
  · simp only [List.getD, List.getElem?_eq_getElem hi, Option.getD_some]; exact h _ (List.getElem_mem _)
  · simp [List.getD, List.getElem?_eq_none (Nat.le_of_not_lt hi)]
theorem take_snocN (l : List Nat) (k : Nat) (h : k < l.length) : l.take (k + 1) = l.take k ++ [l.getD k 0] := by
  rw [List.take_succ_eq_append_getElem h]; simp [List.getD, h]
theorem take_step (a : List Nat) (k : Nat) (h : k < a.length) (h0 : a.getD k 0 = 0) : valW (a.take (k + 1)) = valW (a.take k) := by
  rw [take_snocN a k h, valW_snoc, h0]; simp
theorem trimW_len {a : List Nat} (h : trimW a) (n : Nat) (hv : valW a < 2 ^ (32 * n)) : a.length ≤ n := by
  rcases h with rfl | h
  · simp
  · rcases Nat.lt_or_ge n a.length with hlt | hge
    · exfalso
      have hk : a.length - 1 < a.length := by omega
      have e : a = a.take (a.length - 1) ++ [a.getD (a.length - 1) 0] := by
        rw [← take_snocN a (a.length - 1) hk, List.take_of_length_le (by omega)]
      have hv2 : valW a = valW (a.take (a.length - 1)) + 2 ^ (32 * (a.length - 1)) * a.getD (a.length - 1) 0 := by
        have := valW_snoc (a.take (a.length - 1)) (a.getD (a.length - 1) 0)
        rw [← e, List.length_take, Nat.min_eq_left (by omega)] at this
        exact this
      have h1 : 1 ≤ a.getD (a.length - 1) 0 := by omega
      have h2 : 2 ^ (32 * n) ≤ 2 ^ (32 * (a.length - 1)) := Nat.pow_le_pow_right (by omega) (by omega)
      have h3 : 2 ^ (32 * (a.length - 1)) * 1 ≤ 2 ^ (32 * (a.length - 1)) * a.getD (a.length - 1) 0 := Nat.mul_le_mul_left _ h1
      omega
    · exact hge
end Go.Proofs.YtjgliinpaadbnaaGreatDoor.Wm
namespace Go.Proofs.YtjgliinpaadbnaaGreatDoor
open Go.ChangeShapes Go.WideShapes Go.ChangeAt Go.RowKit
namespace Ww
open Wm

theorem Hid.mk {p : Prop} (h : p) : Hid p := h
def IsW (w : World) (v : Value) (xs : List Nat) : Prop :=
  ∃ a c, v = .slice a xs.length c ∧ xs.length ≤ c ∧ c ≤ maxLen ∧ (a = none → xs.length = 0) ∧ (∀ x, a = some x → ∀ i, i < xs.length → w.cell? (x.add i) = some (.int .u32 (xs.getD i 0))) ∧ okW xs

theorem IsW.below {w w' : World} {v : Value} {xs : List Nat} (h : IsW w v xs) (hb : Below w.heap.size w w') : IsW w' v xs := by
  obtain ⟨a, c, h1, h2, h3, h4, h5, h6⟩ := h
  exact ⟨a, c, h1, h2, h3, h4, fun x hx i hi => Bw.cell_kept hb (h5 x hx i hi), h6⟩
theorem isW_nil (w : World) : IsW w (.slice none 0 0) [] := ⟨none, 0, rfl, Nat.le_refl _, Nat.zero_le _, (fun _ => rfl), (fun x hx => by cases hx), (fun x hx => by cases hx)⟩

theorem isW_take {w : World} {a : Option Addr} {n c k : Nat} {xs : List Nat} (hk : k ≤ xs.length) (hn : n = xs.length) (hc : n ≤ c) (hm : c ≤ maxLen) (hnil : a = none → xs.length = 0)
    (hcells : ∀ x, a = some x → ∀ i, i < xs.length → w.cell? (x.add i) = some (.int .u32 (xs.getD i 0))) (hok : okW xs) : IsW w (.slice a k c) (xs.take k) := by
  have hlen : (xs.take k).length = k := by rw [List.length_take]; omega
  refine ⟨a, c, by rw [hlen], by omega, hm, fun h => by have := hnil h; omega, fun x hx i hi => ?_, okW_take hok k⟩
  rw [hlen] at hi
  rw [hcells x hx i (by omega)]
  simp [List.getD, hi]
theorem trim_at {xs : List Nat} {q z : Nat} (hq : q < xs.length) (hz : xs.getD q 0 = z) (h0 : ¬ z = 0) : (xs.take (q + 1)).getD ((xs.take (q + 1)).length - 1) 0 ≠ 0 := by
  have hlen : (xs.take (q + 1)).length = q + 1 := by rw [List.length_take]; omega
  rw [hlen, Nat.add_sub_cancel, show (xs.take (q + 1)).getD q 0 = xs.getD q 0 by simp [List.getD]]
  omega

set_option maxHeartbeats 2000000 in
theorem trim_any (v : Value) (xs : List Nat) (w : World) (h : IsW w v xs) (hl : xs.length ≤ 100000) :
    Calls Tryz.prog 146 #[v] w fun e w' => ∃ v' ys, e = .returned v' ∧ IsW w v' ys ∧ valW ys = valW xs ∧ trimW ys ∧ ys.length ≤ xs.length ∧ w' = w := by
  obtain ⟨a, c, rfl, hc, hm, hnil, hcells, hok⟩ := h
  have HC := Hid.mk hcells
  have HN := Hid.mk hnil
  have HO := Hid.mk hok
  have HM := Hid.mk hm
  obtain ⟨n, hn⟩ : ∃ n, n = xs.length := ⟨_, rfl⟩
  rw [← hn] at hl hc ⊢
  have HL := Hid.mk hn
  have hc' : (n : Int) ≤ (c : Int) := by omega
  have hcm : (c : Int) ≤ 9223372036854775807 := by unfold maxLen at hm; omega
  clear hcells hnil hok hn hm
  go_enter Tryz.func146, Tryz.ntmps146
  go_wp2_with fail
  go_loop [3] (fun i => ∃ k : Nat, k ≤ n ∧ i = .int .i64 k ∧ valW (xs.take k) = valW xs) (fun i => (intOf i).toNat)
  case atStart => exact ⟨n, Nat.le_refl _, rfl, by rw [List.take_of_length_le (by have := HL.out; omega)]⟩
  case round =>
    obtain ⟨k, hk, rfl, hv⟩ := hrel
    have HV := Hid.mk hv
    clear hv
    by_cases h0 : k = 0
    · subst h0
      go_wp2_with fail
      go_ret
      exact ⟨_, rfl, xs.take 0, isW_take (by have := HL.out; omega) HL.out hc HM.out HN.out HC.out HO.out, HV.out, Or.inl rfl, by simp, rfl⟩
    · obtain ⟨q, rfl⟩ : ∃ q, k = q + 1 := ⟨k - 1, by omega⟩
      cases a with
      | none => exact absurd (HN.out rfl) (by have := HL.out; omega)
      | some x =>
        have hcell := HC.out x rfl q (by have := HL.out; omega)
        have hq : (q : Int) < (n : Int) := by omega
        by_cases hz : xs.getD q 0 = 0
        · rw [hz] at hcell
          have HZ := Hid.mk hz
          clear hz h0
          go_wp2_with fail
          go_round
          case rel => exact ⟨q, by omega, by go_num, by rw [← take_step xs q (by have := HL.out; omega) HZ.out]; exact HV.out⟩
          case measure => simp [intOf]
        · generalize hzz : xs.getD q 0 = z at *
          have hz' : ((z : Int) == 0) = false := by simp; omega
          have HZ := Hid.mk hzz
          have HZ0 := Hid.mk hz
          clear hzz hz h0
          go_wp2_with fail
          go_ret
          exact ⟨_, rfl, xs.take (q + 1), isW_take (by have := HL.out; omega) HL.out hc HM.out HN.out HC.out HO.out, HV.out, Or.inr (trim_at (by have := HL.out; omega) HZ.out HZ0.out), by rw [List.length_take]; omega, rfl⟩

theorem ownsW {w : World} {g n : Nat} {xs : List Nat} {cur : Array Value} {t : TypeId} {fz : Nat × Nat} (hh : w.heap[g]? = some (.cells cur t fz)) (hn : xs.length = n) (hm : n ≤ maxLen)
    (hc : ∀ i, i < n → cur[i]? = some (.int .u32 (xs.getD i 0))) (hok : okW xs) : IsW w (.slice (some ⟨g, 0, none⟩) n n) xs := by
  subst hn
  refine ⟨_, _, rfl, Nat.le_refl _, hm, (fun h => by cases h), fun x hx i hi => ?_, hok⟩
  cases hx
  rw [Addr.add_lit, Nat.zero_add, cell_of_row w g i cur t fz hh]
  exact hc i hi

set_option maxHeartbeats 1000000 in
theorem words_any (x : Nat) (w : World) (h : x < 2 ^ 63) :
    Calls Tryz.prog 145 #[.int .u64 x] w fun e w' => ∃ v' ys, e = .returned v' ∧ IsW w' v' ys ∧ valW ys = x ∧ trimW ys ∧ ys.length ≤ 2 ∧ Below w.heap.size w w' := by
  have h' : (x : Int) < 9223372036854775808 := by omega
  have H := Hid.mk h
  clear h
  go_enter Tryz.func145, Tryz.ntmps145
  go_wp2_with fail
  have hok : okW [x % 4294967296, x / 4294967296] := by
    intro y hy
    have := H.out
    simp at hy
    rcases hy with rfl | rfl <;> omega
  have hW : IsW (w.alloc (Obj.cells #[Value.int IntKind.u32 ((x : Int) % 4294967296), Value.int IntKind.u32 ((x : Int) / 4294967296)] 142)) (.slice (some ⟨w.heap.size, 0, none⟩) 2 2) [x % 4294967296, x / 4294967296] := by
    refine ownsW (heap_alloc_new w _) rfl (by unfold maxLen; omega) (fun i hi => ?_) hok
    match i, hi with
    | 0, _ => simp
    | 1, _ => simp
  refine (trim_any _ _ _ hW (by show 2 ≤ 100000; omega)).mono ?_
  rintro e w1 ⟨v', ys, rfl, hy, hv, ht, hl, rfl⟩
  clear hW hok
  go_wp2_with fail
  go_ret
  exact ⟨_, ys, rfl, hy, by rw [hv]; simp [valW]; omega, ht, hl, (Below.refl _ _).alloc (Nat.le_refl _) _⟩
end Ww
end Go.Proofs.YtjgliinpaadbnaaGreatDoor
namespace Go.Proofs.YtjgliinpaadbnaaGreatDoor
open Go.ChangeShapes Go.WideShapes Go.ChangeAt Go.RowKit
namespace Ww
open Wm

theorem info_u32 : (Tryz.prog.info? 142).map (fun i => (i.zero, i.size, i.bytes)) = some (some (.int .u32 0), 1, 4) := by kernel_rfl
def cellsW (l : List Nat) : List Value := l.map fun x : Nat => Value.int .u32 (x : Int)
theorem cellsW_rep (n : Nat) : cellsW ([] ++ List.replicate (n - 0) 0) = List.replicate n (Value.int .u32 0) := by simp [cellsW]
theorem cellsW_at (zs : List Nat) (n k : Nat) (h : zs.length = k) (hk : k < n) : (cellsW (zs ++ List.replicate (n - k) 0))[k]? = some (.int .u32 0) := by
  unfold cellsW
  rw [List.getElem?_map, List.getElem?_append_right (by omega), h, Nat.sub_self, List.getElem?_replicate, if_pos (by omega)]
  rfl
theorem cellsW_set (zs : List Nat) (n k v : Nat) (h : zs.length = k) (hk : k < n) : (cellsW (zs ++ List.replicate (n - k) 0)).set k (.int .u32 (v : Int)) = cellsW ((zs ++ [v]) ++ List.replicate (n - (k + 1)) 0) := by
  unfold cellsW
  have e : n - k = (n - (k + 1)) + 1 := by omega
  rw [e, List.replicate_succ, List.map_append, List.map_cons, List.set_append_right _ _ (by simp; omega)]
  simp [h]
theorem okW_one {x : Nat} (h : x < 4294967296) : okW [x] := by intro y hy; simp at hy; omega
theorem isW_own {w : World} {base g n : Nat} {xs : List Nat} (h : w.ownsRow base 142 1 (.slice (some ⟨g, 0, none⟩) n n) n (cellsW xs)) (hn : xs.length = n) (hm : n ≤ maxLen) (hok : okW xs) :
    IsW w (.slice (some ⟨g, 0, none⟩) n n) xs := by
  subst hn
  refine ⟨_, _, rfl, Nat.le_refl _, hm, (fun h => by cases h), fun x hx i hi => ?_, hok⟩
  cases hx
  rw [Addr.add_lit, Nat.zero_add, h.cellAt i (by omega)]
  simp [cellsW, hi]
theorem take_more (ys : List Nat) (k : Nat) (h : ys.length ≤ k) : valW (ys.take (k + 1)) = valW (ys.take k) := by
  rw [List.take_of_length_le (by omega), List.take_of_length_le (by omega)]
theorem pow32 (k : Nat) : 2 ^ (32 * (k + 1)) = 2 ^ (32 * k) * 4294967296 := by rw [Nat.mul_add, Nat.pow_add]
theorem carry_step (V P t : Nat) : V + P * (t % 4294967296) + P * 4294967296 * (t / 4294967296) = V + P * t := by
  have h := Nat.mod_add_div t 4294967296
  rw [Nat.mul_assoc, Nat.add_assoc, ← Nat.mul_add, h]
theorem add_step {zs xs ys : List Nat} {k cc xk yk : Nat} (hv : valW zs + 2 ^ (32 * k) * cc = valW (xs.take k) + valW (ys.take k)) (hz : zs.length = k) (hx : xk = xs.getD k 0) (hy : yk = ys.getD k 0) (h1 : k < xs.length) (h2 : k < ys.length) :
    valW (zs ++ [(cc + xk + yk) % 4294967296]) + 2 ^ (32 * (k + 1)) * ((cc + xk + yk) / 4294967296) = valW (xs.take (k + 1)) + valW (ys.take (k + 1)) := by
  rw [valW_snoc, hz, pow32, carry_step, take_snocN xs k h1, take_snocN ys k h2, valW_snoc, valW_snoc, List.length_take, List.length_take, Nat.min_eq_left (by omega), Nat.min_eq_left (by omega), ← hx, ← hy, Nat.mul_add, Nat.mul_add]
  omega
theorem add_step1 {zs xs ys : List Nat} {k cc xk : Nat} (hv : valW zs + 2 ^ (32 * k) * cc = valW (xs.take k) + valW (ys.take k)) (hz : zs.length = k) (hx : xk = xs.getD k 0) (h1 : k < xs.length) (h2 : ys.length ≤ k) :
    valW (zs ++ [(cc + xk) % 4294967296]) + 2 ^ (32 * (k + 1)) * ((cc + xk) / 4294967296) = valW (xs.take (k + 1)) + valW (ys.take (k + 1)) := by
  rw [valW_snoc, hz, pow32, carry_step, take_snocN xs k h1, take_more ys k h2, valW_snoc, List.length_take, Nat.min_eq_left (by omega), ← hx, Nat.mul_add]
  omega

end Ww
end Go.Proofs.YtjgliinpaadbnaaGreatDoor
namespace Go.Proofs.YtjgliinpaadbnaaGreatDoor
open Go.ChangeShapes Go.WideShapes Go.ChangeAt Go.RowKit
namespace Ww
open Wm
theorem isW_ownV {w : World} {base n : Nat} {v : Value} {xs : List Nat} (h : w.ownsRow base 142 1 v n (cellsW xs)) (hok : okW xs) : IsW w v xs := by
  have h0 := h
  obtain ⟨hl, h2⟩ := h
  have hn : xs.length = n := by simpa [cellsW] using hl
  rcases h2 with ⟨rfl, h1⟩ | ⟨g, cap, cur, rfl, hg, hh, hc, hm, hsz, htk⟩
  · have : xs = [] := List.eq_nil_of_length_eq_zero (by omega)
    subst this
    exact isW_nil w
  · refine ⟨some ⟨g, 0, none⟩, cap, by rw [hn], by omega, hm, (fun h => by cases h), fun x hx i hi => ?_, hok⟩
    cases hx
    exact h0.cells rfl i _ (by simp [cellsW, hi])
set_option maxHeartbeats 4000000 in
set_option maxRecDepth 100000 in
/-- a copy, in memory of its own -/
theorem twin_any (va : Value) (xs : List Nat) (w : World) (h : IsW w va xs) (hl : xs.length ≤ 10000) :
    Calls Tryz.prog 102 #[va] w fun e w' => ∃ v', e = .returned v' ∧ IsW w' v' xs ∧ Below w.heap.size w w' := by
  obtain ⟨i0, hi, hz0, hz1, hz2⟩ := info_parts info_u32
  obtain ⟨a, ca, rfl, hca, hma, hna, hcea, hoa⟩ := h
  have HOK := Hid.mk hoa
  cases a with
  | none =>
    have h0 := hna rfl
    have : xs = [] := List.eq_nil_of_length_eq_zero h0
    subst this
    clear hca hma hna hcea hoa h0 hl
    go_enter Tryz.func102, Tryz.ntmps102
    go_wp2_with fail
    go_ret
    exact ⟨_, rfl, isW_nil w, Below.refl _ _⟩
  | some x =>
    by_cases h0 : xs.length = 0
    · have : xs = [] := List.eq_nil_of_length_eq_zero h0
      subst this
      clear hca hma hna hcea hoa h0 hl
      simp only [List.length_nil]
      go_enter Tryz.func102, Tryz.ntmps102
      go_wp2_with fail
      go_ret
      exact ⟨_, rfl, isW_nil w, Below.refl _ _⟩
    · obtain ⟨nA, hnA⟩ : ∃ n, n = xs.length := ⟨_, rfl⟩
      rw [← hnA] at hl hca h0 ⊢
      have hcl : (cellsW xs).length = nA * 1 := by unfold cellsW; rw [List.length_map, ← hnA, Nat.mul_one]
      have hcc : ∀ q u, (cellsW xs)[q]? = some u → w.cell? (x.add q) = some u := by
        intro q u hq
        have hq1 : q < xs.length := by
          rcases Nat.lt_or_ge q xs.length with hh | hh
          · exact hh
          · rw [List.getElem?_eq_none (by unfold cellsW; rw [List.length_map]; exact hh)] at hq; cases hq
        rw [hcea x rfl q hq1]
        simp [cellsW, hq1] at hq
        rw [← hq]; simp [List.getD, hq1]
      have HCC := Hid.mk hcc
      have HCL := Hid.mk hcl
      have HO := Hid.mk (show w.ownsRow w.heap.size 142 1 (.slice none 0 0) 0 [] from World.ownsRow_nil _ _ _ _)
      clear hcea hna hoa hcc hcl hnA
      go_enter Tryz.func102, Tryz.ntmps102
      go_wp2_with (at_builtin; refine wpList_append_own _ rfl (.const (.slice none 0 0)) (.tmp 3) 83 rfl w.heap.size 142 i0 (.int .u32 0) 1 4 Tryz.underlying83 hi hz0 hz1 hz2 rfl (by decide) _ _ _ rfl HO.out x nA ca (cellsW xs) rfl HCL.out HCC.out (by intro u hu; simp [cellsW] at hu; obtain ⟨c, -, rfl⟩ := hu; rfl) (by unfold maxLen; omega) (by omega) (by simp) ?_; intro v3 w3 hown3 hgrow3 hnil3)
      have hown2 : w3.ownsRow w.heap.size 142 1 v3 nA (cellsW xs) := by simpa using hown3
      have hB3 : Below w.heap.size w w3 := Below.grown (Below.refl _ _) hgrow3 (Nat.le_refl _) (fun q hq => by cases hq)
      have HW := Hid.mk (isW_ownV hown2 HOK.out)
      clear hown2 hown3
      go_ret
      exact ⟨_, rfl, HW.out, hB3⟩
theorem drBw (w : World) (n : Nat) : Below w.heap.size w (w.drewN n) := ⟨rfl, rfl, rfl, Nat.le_refl _, fun _ _ => rfl⟩
def cmpN (x y : Nat) : Int := if x < y then -1 else if y < x then 1 else 0
theorem cmp_lt {x y : Nat} (h : x < y) : cmpN x y = -1 := by unfold cmpN; rw [if_pos h]
theorem cmp_gt {x y : Nat} (h : y < x) : cmpN x y = 1 := by unfold cmpN; rw [if_neg (by omega), if_pos h]
theorem cmp_eq (x : Nat) : cmpN x x = 0 := by unfold cmpN; rw [if_neg (by omega), if_neg (by omega)]
theorem len_lt {xs ys : List Nat} (hx : okW xs) (hy : trimW ys) (h : xs.length < ys.length) : valW xs < valW ys := by
  have h1 := valW_lt xs hx
  rcases Nat.lt_or_ge (valW ys) (2 ^ (32 * xs.length)) with h2 | h2
  · have := trimW_len hy xs.length h2; omega
  · omega
theorem val_split (xs : List Nat) (k : Nat) (h : k < xs.length) : valW xs = valW (xs.take k) + 2 ^ (32 * k) * (xs.getD k 0 + 4294967296 * valW (xs.drop (k + 1))) := by
  have e : xs = xs.take k ++ (xs.getD k 0 :: xs.drop (k + 1)) := by
    have h1 : xs.getD k 0 = xs[k] := by simp [List.getD, h]
    rw [h1, ← List.drop_eq_getElem_cons h, List.take_append_drop]
  have h2 := valW_append (xs.take k) (xs.getD k 0 :: xs.drop (k + 1))
  rw [← e, List.length_take, Nat.min_eq_left (by omega), valW] at h2
  exact h2
theorem word_lt {xs ys : List Nat} (hx : okW xs) {k : Nat} (h1 : k < xs.length) (h2 : k < ys.length) (hd : xs.drop (k + 1) = ys.drop (k + 1)) (hlt : xs.getD k 0 < ys.getD k 0) : valW xs < valW ys := by
  have e1 := val_split xs k h1
  have e2 := val_split ys k h2
  rw [hd] at e1
  have h3 := valW_lt (xs.take k) (okW_take hx k)
  rw [List.length_take, Nat.min_eq_left (by omega)] at h3
  have h4 : 2 ^ (32 * k) * (xs.getD k 0 + 4294967296 * valW (ys.drop (k + 1)) + 1) ≤ 2 ^ (32 * k) * (ys.getD k 0 + 4294967296 * valW (ys.drop (k + 1))) := Nat.mul_le_mul_left _ (by omega)
  rw [Nat.mul_add, Nat.mul_one] at h4
  omega
theorem drop_step {xs ys : List Nat} {k : Nat} (h1 : k < xs.length) (h2 : k < ys.length) (hd : xs.drop (k + 1) = ys.drop (k + 1)) (he : xs.getD k 0 = ys.getD k 0) : xs.drop k = ys.drop k := by
  rw [List.drop_eq_getElem_cons h1, List.drop_eq_getElem_cons h2, hd]
  congr 1
  simpa [List.getD, h1, h2] using he
set_option maxHeartbeats 8000000 in
set_option maxRecDepth 100000 in
theorem cmp_any (va vb : Value) (xs ys : List Nat) (w : World) (ha : IsW w va xs) (hb : IsW w vb ys) (hta : trimW xs) (htb : trimW ys) (hla : xs.length ≤ 10000) (_ : ys.length ≤ 10000) :
    Calls Tryz.prog 103 #[va, vb] w fun e w' => e = .returned (.int .i64 (cmpN (valW xs) (valW ys))) ∧ Below w.heap.size w w' := by
  obtain ⟨a, ca, rfl, hca, hma, hna, hcea, hoa⟩ := ha
  obtain ⟨b, cb, rfl, hcb, hmb, hnb, hceb, hob⟩ := hb
  obtain ⟨nA, hnA⟩ : ∃ n, n = xs.length := ⟨_, rfl⟩
  obtain ⟨nB, hnB⟩ : ∃ n, n = ys.length := ⟨_, rfl⟩
  by_cases hlen : xs.length = ys.length
  · have HCA := Hid.mk hcea
    have HCB := Hid.mk hceb
    have HNA := Hid.mk hna
    have HNB := Hid.mk hnb
    have HOA := Hid.mk hoa
    have HOB := Hid.mk hob
    have HLE := Hid.mk hlen
    have hnBA : nB = nA := by omega
    subst hnBA
    rw [← hlen]
    rw [← hnA] at hla ⊢
    have HLA := Hid.mk hnA
    clear hcea hceb hna hnb hoa hob hnA hnB hca hcb hma hmb hta htb hlen
    go_enter Tryz.func103, Tryz.ntmps103
    go_wp2_with fail
    go_loopw [5] (fun i wr => ∃ k : Nat, k ≤ nB ∧ i = .int .i64 ((k : Int) - 1) ∧ Hid (xs.drop k = ys.drop k) ∧ ∃ m, wr = w.drewN m) (fun i _ => (intOf i + 1).toNat)
    case atStart => exact ⟨nB, Nat.le_refl _, rfl, Hid.mk (by rw [List.drop_of_length_le (by have := HLA.out; omega), List.drop_of_length_le (by have := HLA.out; have := HLE.out; omega)]), 0, rfl⟩
    case round =>
      obtain ⟨k, hk, rfl, HD, m, rfl⟩ := hrel
      by_cases h0 : k = 0
      · subst h0
        have hres : cmpN (valW xs) (valW ys) = 0 := by
          have := HD.out
          rw [List.drop_zero, List.drop_zero] at this
          rw [this, cmp_eq]
        have HR := Hid.mk hres
        clear hres
        go_wp2_with fail
        go_ret
        exact ⟨by rw [HR.out]; rfl, drBw w _⟩
      · obtain ⟨q, rfl⟩ : ∃ q, k = q + 1 := ⟨k - 1, by omega⟩
        have hq1 : q < xs.length := by have := HLA.out; omega
        have hq2 : q < ys.length := by have := HLE.out; omega
        cases a with
        | none => exact absurd (HNA.out rfl) (by omega)
        | some x =>
          cases b with
          | none => exact absurd (HNB.out rfl) (by omega)
          | some y =>
            have g1 := HCA.out x rfl q hq1
            have g2 := HCB.out y rfl q hq2
            have HST := Hid.mk (fun he => drop_step hq1 hq2 HD.out he)
            have HLT := Hid.mk (fun hl => word_lt HOA.out hq1 hq2 HD.out hl)
            have HGT := Hid.mk (fun hl => word_lt HOB.out hq2 hq1 HD.out.symm hl)
            generalize xs.getD q 0 = u at *
            generalize ys.getD q 0 = v at *
            have e1 : (((q + 1 : Nat) : Int) - 1).toNat = q := by omega
            have e2 : ((q + 1 : Nat) : Int) - 1 = (q : Int) := by omega
            rw [e2]
            have hqB : (q : Int) < (nB : Int) := by omega
            clear hq1 hq2 e1 e2
            by_cases huv : u = v
            · subst huv
              go_wp2_with fail
              go_quiet (fail)
              go_wp2_with fail
              go_roundw
              case rel => exact ⟨q, by omega, rfl, Hid.mk (HST.out trivial), _, rfl⟩
              case measure => simp [intOf]
            · have hb1 : ((u : Int) != (v : Int)) = true := by simp; omega
              have hb2 : ((u : Int) == (v : Int)) = false := by simp; omega
              rcases Nat.lt_or_ge u v with hl | hl
              · have HR := Hid.mk (cmp_lt (HLT.out hl))
                have hl' : (u : Int) < (v : Int) := by omega
                clear huv
                go_wp2_with fail
                go_quiet (fail)
                go_wp2_with fail
                obtain ⟨W1, hW1⟩ : ∃ W1, W1 = (w.drewN m).drewN nq := ⟨_, rfl⟩
                have HB1 := Hid.mk (show Below w.heap.size w W1 by rw [hW1]; exact Bw.bl2 (drBw w m) (drBw (w.drewN m) _))
                have g3 : W1.cell? (x.add q) = some (.int .u32 (u : Int)) := by rw [hW1]; exact g1
                have g4 : W1.cell? (y.add q) = some (.int .u32 (v : Int)) := by rw [hW1]; exact g2
                rw [← hW1]
                clear hW1 g1 g2
                go_quiet (fail)
                go_wp2_with fail
                go_ret
                exact ⟨by rw [HR.out]; rfl, Bw.bl2 HB1.out (drBw W1 _)⟩
              · have HR := Hid.mk (cmp_gt (HGT.out (by omega)))
                have hl' : (v : Int) < (u : Int) := by omega
                clear huv
                go_wp2_with fail
                go_quiet (fail)
                go_wp2_with fail
                obtain ⟨W1, hW1⟩ : ∃ W1, W1 = (w.drewN m).drewN nq := ⟨_, rfl⟩
                have HB1 := Hid.mk (show Below w.heap.size w W1 by rw [hW1]; exact Bw.bl2 (drBw w m) (drBw (w.drewN m) _))
                have g3 : W1.cell? (x.add q) = some (.int .u32 (u : Int)) := by rw [hW1]; exact g1
                have g4 : W1.cell? (y.add q) = some (.int .u32 (v : Int)) := by rw [hW1]; exact g2
                rw [← hW1]
                clear hW1 g1 g2
                go_quiet (fail)
                go_wp2_with fail
                go_ret
                exact ⟨by rw [HR.out]; rfl, Bw.bl2 HB1.out (drBw W1 _)⟩
  · rcases Nat.lt_or_ge xs.length ys.length with hl | hl
    · rw [cmp_lt (len_lt hoa htb hl)]
      rw [← hnA, ← hnB]
      have hl' : (nA : Int) < (nB : Int) := by omega
      have hne : ((nA : Int) != (nB : Int)) = true := by simp; omega
      clear hcea hceb hna hnb hoa hob hca hcb hma hmb hta htb hla hl hlen hnA hnB
      go_enter Tryz.func103, Tryz.ntmps103
      go_wp2_with fail
      go_ret
      exact ⟨rfl, Below.refl _ _⟩
    · rw [cmp_gt (len_lt hob hta (by omega))]
      rw [← hnA, ← hnB]
      have hl' : (nB : Int) < (nA : Int) := by omega
      have hne : ((nA : Int) != (nB : Int)) = true := by simp; omega
      clear hcea hceb hna hnb hoa hob hca hcb hma hmb hta htb hla hl hlen hnA hnB
      go_enter Tryz.func103, Tryz.ntmps103
      go_wp2_with fail
      go_ret
      exact ⟨rfl, Below.refl _ _⟩
theorem addr0 (p : Addr) : p.add 0 = p := by
  cases p with
  | mk b o t => unfold Addr.add; cases t <;> simp
theorem or_hiW (x y : Nat) (hx : x < 4294967296) (hy : y < 1073741824) : bits .or .u64 (x : Int) ((y : Int) * 4294967296) = (x : Int) + 4294967296 * (y : Int) := by
  have hc : bits .or .u64 (x : Int) ((y : Int) * 4294967296) = bits .or .u64 ((y : Int) * 4294967296) (x : Int) := by simp only [bits, BitVec.or_comm]
  rw [hc, bits_join .u64 63 (by decide) (fun n h0 h1 => by simp only [IntKind.wrap, IntKind.bits, IntKind.signed]; simp; omega) 32 _ _ (by omega) (by omega) (by omega) (by omega) (by omega) (by omega)]
  omega
theorem len_two {xs : List Nat} (ht : trimW xs) (hv : valW xs < 2 ^ 62) : xs.length ≤ 2 := trimW_len ht 2 (Nat.lt_of_lt_of_le hv (Nat.pow_le_pow_right (by omega) (by omega)))
set_option maxHeartbeats 2000000 in
theorem plain_any (va : Value) (xs : List Nat) (w : World) (hW : IsW w va xs) (ht : trimW xs) (hn : valW xs < 2 ^ 62) :
    Calls Tryz.prog 180 #[va] w fun e w' => e = .returned (.int .u64 (valW xs : Int)) ∧ w' = w := by
  have hl := len_two ht hn
  obtain ⟨a, c, rfl, hc, hm, hnil, hcells, hok⟩ := hW
  clear ht
  match xs, hl with
  | [], _ =>
    clear hcells hnil hok hn hm hc
    simp only [List.length_nil, valW]
    go_enter Tryz.func180, Tryz.ntmps180
    go_wp2
    go_ret
    exact ⟨rfl, rfl⟩
  | [x], _ =>
    have hv : valW [x] = x := by simp [valW]
    rw [hv]
    cases a with
    | none => exact absurd (hnil rfl) (by simp)
    | some p =>
      have h0 := hcells p rfl 0 (by simp)
      have hx := hok x (by simp)
      have hx' : (x : Int) ≤ 4294967295 := by omega
      rw [addr0] at h0
      simp only [List.length_singleton, List.getD_cons_zero] at h0 ⊢
      clear hcells hnil hok hv hn hm hc
      go_enter Tryz.func180, Tryz.ntmps180
      go_wp2
      go_ret
      exact ⟨rfl, rfl⟩
  | [x, y], _ =>
    have hv : valW [x, y] = x + 4294967296 * y := by simp [valW]
    rw [hv] at hn ⊢
    cases a with
    | none => exact absurd (hnil rfl) (by simp)
    | some p =>
      have h0 := hcells p rfl 0 (by simp)
      have h1 := hcells p rfl 1 (by simp)
      have hx := hok x (by simp)
      have hy2 : y < 1073741824 := by omega
      have hor := or_hiW x y hx hy2
      have hx' : (x : Int) ≤ 4294967295 := by omega
      have hy' : (y : Int) ≤ 1073741823 := by omega
      rw [addr0] at h0
      simp only [List.length_cons, List.length_nil, List.getD_cons_zero, List.getD_cons_succ] at h0 h1 ⊢
      have h1' : w.cell? ⟨p.block, p.off + 1, none⟩ = some (.int .u32 (y : Int)) := by rw [← h1]; simp [Addr.add]
      clear hcells hnil hok hv hn h1 hm hc
      go_enter Tryz.func180, Tryz.ntmps180
      go_wp2
      go_ret
      exact ⟨rfl, rfl⟩
end Ww
end Go.Proofs.YtjgliinpaadbnaaGreatDoor
namespace Go.Proofs.YtjgliinpaadbnaaGreatDoor
open Go.ChangeShapes Go.WideShapes Go.ChangeAt Go.RowKit
namespace Ww
open Wm
theorem drBw1 (w : World) : Below w.heap.size w w.drew := ⟨rfl, rfl, rfl, Nat.le_refl _, fun _ _ => rfl⟩
theorem words_le (x : Nat) (w : World) (h : x ≤ 4611686018427387903) :
    Calls Tryz.prog 145 #[.int .u64 x] w fun e w' => ∃ v' ys, e = .returned v' ∧ IsW w' v' ys ∧ valW ys = x ∧ trimW ys ∧ ys.length ≤ 2 ∧ Below w.heap.size w w' := words_any x w (by omega)
set_option maxHeartbeats 8000000 in
set_option maxRecDepth 100000 in
theorem common_any (va vb : Value) (xs ys : List Nat) (w : World) (ha : IsW w va xs) (hb : IsW w vb ys) (hta : trimW xs) (htb : trimW ys) (hva : valW xs < 2 ^ 62) (hvb : valW ys < 2 ^ 62) (h0 : 0 < valW ys) :
    Calls Tryz.prog 162 #[va, vb] w fun e w' => ∃ v' zs, e = .returned v' ∧ IsW w' v' zs ∧ valW zs = Nat.gcd (valW xs) (valW ys) ∧ trimW zs ∧ zs.length ≤ 2 ∧ Below w.heap.size w w' := by
  have HPA := Hid.mk (plain_any va xs w ha hta hva)
  have HPB := Hid.mk (plain_any vb ys w hb htb hvb)
  have hla := len_two hta hva
  have hlb := len_two htb hvb
  have hlb0 : 0 < ys.length := by
    rcases Nat.eq_zero_or_pos ys.length with h | h
    · have : ys = [] := List.eq_nil_of_length_eq_zero h
      subst this
      simp [valW] at h0
    · exact h
  obtain ⟨a, ca, rfl, -, -, -, -, -⟩ := ha
  obtain ⟨b, cb, rfl, -, -, -, -, -⟩ := hb
  obtain ⟨nA, hnA⟩ : ∃ n, n = xs.length := ⟨_, rfl⟩
  obtain ⟨nB, hnB⟩ : ∃ n, n = ys.length := ⟨_, rfl⟩
  rw [← hnA] at hla HPA ⊢
  rw [← hnB] at hlb hlb0 HPB ⊢
  have hla' : (nA : Int) ≤ 2 := by omega
  have hlb' : (nB : Int) ≤ 2 := by omega
  have hne : ((nB : Int) == 0) = false := by simp; omega
  obtain ⟨X, hX⟩ : ∃ X, X = valW xs := ⟨_, rfl⟩
  obtain ⟨Y, hY⟩ : ∃ Y, Y = valW ys := ⟨_, rfl⟩
  rw [← hX] at hva HPA ⊢
  rw [← hY] at hvb h0 HPB ⊢
  have hXi : (X : Int) ≤ 4611686018427387903 := by omega
  have hYi : (Y : Int) ≤ 4611686018427387903 := by omega
  clear hta htb hX hY hnA hnB hla hlb hva hvb
  go_enter Tryz.func162, Tryz.ntmps162
  go_wp2_with fail
  go_loopw [0, 1] (fun u v wr => u = .slice a nA ca ∧ v = .slice b nB cb ∧ wr = w) (fun _ _ _ => 0)
  case atStart => exact ⟨rfl, rfl, rfl⟩
  case round =>
    obtain ⟨rfl, rfl, rfl⟩ := hrel
    go_wp2_with fail
    refine HPA.out.mono ?_
    rintro e w1 ⟨rfl, hw1⟩
    obtain rfl := hw1.symm
    go_wp2_with fail
    refine HPB.out.mono ?_
    rintro e w1 ⟨rfl, hw1⟩
    obtain rfl := hw1.symm
    clear HPA HPB
    obtain ⟨wz, hwz⟩ : ∃ wz, wz = wr := ⟨_, rfl⟩
    rw [← hwz]
    have HWZ := Hid.mk hwz
    clear hwz
    go_wp2_with fail
    go_loopw [9, 10] (fun p q wr => ∃ x y : Nat, p = .int .u64 (x : Int) ∧ q = .int .u64 (y : Int) ∧ x ≤ 4611686018427387903 ∧ y ≤ 4611686018427387903 ∧ Hid (Nat.gcd x y = Nat.gcd X Y) ∧ Hid (Below wz.heap.size wz wr)) (fun _ q _ => (intOf q).toNat)
    case atStart => exact ⟨X, Y, rfl, rfl, by omega, by omega, Hid.mk rfl, Hid.mk (Below.refl _ _)⟩
    case round =>
      obtain ⟨x, y, rfl, rfl, hx, hy, HXY, HB⟩ := hrel
      by_cases hy0 : y = 0
      · subst hy0
        have hxG : x = Nat.gcd X Y := by have := HXY.out; rwa [Nat.gcd_zero_right] at this
        have HW := Hid.mk (words_le x)
        have HXG := Hid.mk hxG
        have hx' : (x : Int) ≤ 4611686018427387903 := by omega
        clear hxG
        go_wp2_with fail
        refine (HW.out _ (by omega)).mono ?_
        rintro e w2 ⟨v', zs, rfl, hz1, hz2, hz3, hz4, hb2⟩
        have HZ1 := Hid.mk hz1
        have HZ2 := Hid.mk hz2
        have HZ3 := Hid.mk hz3
        clear hz1 hz2 hz3
        go_wp2_with fail
        go_ret
        exact ⟨_, zs, rfl, HZ1.out, by rw [HZ2.out]; exact HXG.out, HZ3.out, hz4, by have h1 := Bw.bl2 HB.out hb2; rw [HWZ.out] at h1; exact h1⟩
      · have hy1 : (0 : Int) < (y : Int) := by omega
        have hye : ¬ (y : Int) = 0 := by omega
        have hx' : (x : Int) ≤ 4611686018427387903 := by omega
        have hy' : (y : Int) ≤ 4611686018427387903 := by omega
        have hst : Nat.gcd y (x % y) = Nat.gcd x y := by rw [Nat.gcd_comm, ← Nat.gcd_rec, Nat.gcd_comm]
        rw [HXY.out] at hst
        have HST := Hid.mk hst
        have hlt : x % y < y := Nat.mod_lt _ (by omega)
        have HLT := Hid.mk hlt
        clear hst hlt
        go_wp2_with fail
        go_quiet (fail)
        go_wp2_with fail
        go_roundw
        case rel => exact ⟨y, x % y, rfl, by go_num, by omega, by have := HLT.out; omega, HST, Hid.mk (Bw.bl2 HB.out (drBw wr _))⟩
        case measure => simp only [intOf]; have := HLT.out; omega
set_option maxHeartbeats 8000000 in
set_option maxRecDepth 100000 in
theorem div_any (va vb : Value) (xs ys : List Nat) (w : World) (ha : IsW w va xs) (hb : IsW w vb ys) (hta : trimW xs) (htb : trimW ys) (hva : valW xs < 2 ^ 62) (hvb : valW ys < 2 ^ 62) (h0 : 0 < valW ys) (hle : valW ys ≤ valW xs) :
    Calls Tryz.prog 163 #[va, vb] w fun e w' => ∃ v1 v2 zs, e = .returned (.tuple #[v1, v2]) ∧ IsW w' v1 zs ∧ valW zs = valW xs / valW ys ∧ trimW zs ∧ Below w.heap.size w w' := by
  have HC := Hid.mk (cmp_any va vb xs ys w ha hb hta htb (by have := len_two hta hva; omega) (by have := len_two htb hvb; omega))
  have HPA := Hid.mk (fun W (h : Below w.heap.size w W) => plain_any va xs W (ha.below h) hta hva)
  have HPB := Hid.mk (fun W (h : Below w.heap.size w W) => plain_any vb ys W (hb.below h) htb hvb)
  have hla := len_two hta hva
  have hlb := len_two htb hvb
  have hlb0 : 0 < ys.length := by
    rcases Nat.eq_zero_or_pos ys.length with h | h
    · have : ys = [] := List.eq_nil_of_length_eq_zero h
      subst this
      simp [valW] at h0
    · exact h
  obtain ⟨a, ca, rfl, -, -, -, -, -⟩ := ha
  obtain ⟨b, cb, rfl, -, -, -, -, -⟩ := hb
  obtain ⟨nA, hnA⟩ : ∃ n, n = xs.length := ⟨_, rfl⟩
  obtain ⟨nB, hnB⟩ : ∃ n, n = ys.length := ⟨_, rfl⟩
  rw [← hnA] at hla HPA HC ⊢
  rw [← hnB] at hlb hlb0 HPB HC ⊢
  have hla' : (nA : Int) ≤ 2 := by omega
  have hne : ((nB : Int) == 0) = false := by simp; omega
  obtain ⟨X, hX⟩ : ∃ X, X = valW xs := ⟨_, rfl⟩
  obtain ⟨Y, hY⟩ : ∃ Y, Y = valW ys := ⟨_, rfl⟩
  rw [← hX] at hva HPA HC hle ⊢
  rw [← hY] at hvb h0 HPB HC hle ⊢
  have hXi : (X : Int) ≤ 4611686018427387903 := by omega
  have hYi : (Y : Int) ≤ 4611686018427387903 := by omega
  have hcm : 0 ≤ cmpN X Y := by unfold cmpN; rw [if_neg (by omega)]; split <;> omega
  obtain ⟨C, hC⟩ : ∃ C, C = cmpN X Y := ⟨_, rfl⟩
  rw [← hC] at hcm HC
  have hqd : X / Y ≤ X := Nat.div_le_self _ _
  have hrm : X % Y ≤ X := Nat.mod_le _ _
  have hW1 := fun W => words_le (X / Y) W (by omega)
  have hW2 := fun W => words_le (X % Y) W (by omega)
  obtain ⟨XI, hXI⟩ : ∃ XI : Int, XI = (X : Int) := ⟨_, rfl⟩
  obtain ⟨YI, hYI⟩ : ∃ YI : Int, YI = (Y : Int) := ⟨_, rfl⟩
  obtain ⟨QI, hQI⟩ : ∃ QI : Int, QI = ((X / Y : Nat) : Int) := ⟨_, rfl⟩
  obtain ⟨RI, hRI⟩ : ∃ RI : Int, RI = ((X % Y : Nat) : Int) := ⟨_, rfl⟩
  rw [← hQI] at hW1
  rw [← hRI] at hW2
  rw [← hXI] at HPA
  rw [← hYI] at HPB
  have q1 : IntKind.u64.wrap (XI.tdiv YI) = QI := by
    have e : (X : Int).tdiv (Y : Int) = ((X / Y : Nat) : Int) := rfl
    rw [hXI, hYI, hQI, e, IntKind.wrap_u64]
    generalize X / Y = D at hqd ⊢
    omega
  have q2 : XI.tmod YI = RI := by
    rw [hXI, hYI, hRI]
    rfl
  have hYn : ¬ YI = 0 := by omega
  have HW1 := Hid.mk hW1
  have HW2 := Hid.mk hW2
  clear hW1 hW2 hXI hYI hQI hRI hXi hYi h0
  clear hta htb hX hY hnA hnB hla hlb hva hvb hC hqd hrm hle
  go_enter Tryz.func163, Tryz.ntmps163
  go_wp2_with fail
  refine HC.out.mono ?_
  rintro e w1 ⟨rfl, hb1⟩
  have HB1 := Hid.mk hb1
  clear hb1
  go_wp2_with fail
  refine (HPA.out _ HB1.out).mono ?_
  rintro e w2 ⟨rfl, hw2⟩
  obtain rfl := hw2.symm
  go_wp2_with fail
  refine (HPB.out _ HB1.out).mono ?_
  rintro e w2 ⟨rfl, hw2⟩
  obtain rfl := hw2.symm
  clear HPA HPB HC
  go_wp2_with fail
  go_region_held3 (fun _ => True) (trivial) (first
    | (go_at_call 145; refine (HW1.out _).mono ?_; rintro e w3 ⟨v1, zs, rfl, hz1, hz2, hz3, hz4, hb3⟩; have HZ1 := Hid.mk hz1; have HZ2 := Hid.mk hz2; have HZ3 := Hid.mk hz3; have HB3 := Hid.mk hb3; clear hz1 hz2 hz3 hz4 hb3 HW1)
    | (go_at_call 145; refine (HW2.out _).mono ?_; rintro e w4 ⟨v2, zs2, rfl, -, -, -, -, hb4⟩; have HB4 := Hid.mk hb4; clear hb4))
  go_wp2_with fail
  go_ret2
  exact ⟨_, _, zs, rfl, IsW.below HZ1.out HB4.out, HZ2.out, HZ3.out, Bw.bl2 HB1.out (Bw.bl2 (drBw1 w1) (Bw.bl2 HB3.out HB4.out))⟩
end Ww
end Go.Proofs.YtjgliinpaadbnaaGreatDoor
namespace Go.Proofs.YtjgliinpaadbnaaGreatDoor
open Go.ChangeShapes Go.WideShapes Go.ChangeAt Go.RowKit
namespace Bw
/-- a variable of one cell -/
def BoxAt (w : World) (g : Nat) (t : TypeId) (v : Value) : Prop := w.heap[g]? = some (.cells #[v] t (0, 0))
theorem BoxAt.lt {w : World} {g : Nat} {t : TypeId} {v : Value} (h : BoxAt w g t v) : g < w.heap.size := by
  rcases Nat.lt_or_ge g w.heap.size with h' | h'
  · exact h'
  · unfold BoxAt at h; rw [Array.getElem?_eq_none h'] at h; cases h
theorem BoxAt.cell {w : World} {g : Nat} {t : TypeId} {v : Value} (h : BoxAt w g t v) : w.cell? ⟨g, 0, none⟩ = some v := by
  rw [cell_of_row w g 0 _ _ _ h]; rfl
theorem BoxAt.frozen {w : World} {g : Nat} {t : TypeId} {v : Value} (h : BoxAt w g t v) : w.frozen? ⟨g, 0, none⟩ = false := frozen_of_row w g 0 _ _ h
theorem BoxAt.kept {w w' : World} {g : Nat} {t : TypeId} {v : Value} (h : BoxAt w g t v) (hb : Below w.heap.size w w') : BoxAt w' g t v := by
  unfold BoxAt; rw [hb.block g h.lt]; exact h
theorem BoxAt.set {w : World} {g : Nat} {t : TypeId} {v : Value} (h : BoxAt w g t v) (u : Value) : BoxAt (w.setCell ⟨g, 0, none⟩ u) g t u := heap_setCell_same w g 0 _ t u h
theorem BoxAt.other {w : World} {g k : Nat} {t : TypeId} {v : Value} (h : BoxAt w g t v) (u : Value) (hk : g ≠ k) : BoxAt (w.setCell ⟨k, 0, none⟩ u) g t v := by
  unfold BoxAt; rw [Below.heap_setCell _ _ _ _ hk]; exact h
/-- of what was there only these blocks have turned -/
structure Tch (gs : List Nat) (w w' : World) : Prop where
  os : w'.os = w.os
  tape : w'.tape = w.tape
  output : w'.output = w.output
  size : w.heap.size ≤ w'.heap.size
  block : ∀ k, k < w.heap.size → k ∉ gs → w'.heap[k]? = w.heap[k]?
theorem Tch.refl (gs : List Nat) (w : World) : Tch gs w w := ⟨rfl, rfl, rfl, Nat.le_refl _, fun _ _ _ => rfl⟩
theorem Tch.of {gs : List Nat} {w w' : World} (h : Below w.heap.size w w') : Tch gs w w' := ⟨h.os, h.tape, h.output, h.size, fun k hk _ => h.block k hk⟩
theorem Tch.trans {gs : List Nat} {w a b : World} (h1 : Tch gs w a) (h2 : Tch gs a b) : Tch gs w b :=
  ⟨h2.os.trans h1.os, h2.tape.trans h1.tape, h2.output.trans h1.output, Nat.le_trans h1.size h2.size, fun k hk hg => (h2.block k (Nat.lt_of_lt_of_le hk h1.size) hg).trans (h1.block k hk hg)⟩
theorem Tch.set {gs : List Nat} {w a : World} (h : Tch gs w a) {g : Nat} (hg : g ∈ gs) (u : Value) : Tch gs w (a.setCell ⟨g, 0, none⟩ u) :=
  h.trans ⟨rfl, rfl, rfl, by simp [World.setCell], fun k _ hk => Below.heap_setCell _ _ _ _ (fun e => hk (e ▸ hg))⟩
theorem Tch.setK {gs : List Nat} {w a : World} (h : Tch gs w a) {g : Nat} (hg : g ∈ gs) (k : Nat) (u : Value) : Tch gs w (a.setCell ⟨g, k, none⟩ u) :=
  h.trans ⟨rfl, rfl, rfl, by simp [World.setCell], fun q _ hq => Below.heap_setCell _ _ _ _ (fun e => hq (e ▸ hg))⟩
theorem Tch.below {gs : List Nat} {w a b : World} {B : Nat} (h : Below B w a) (ht : Tch gs a b) (hg : ∀ g ∈ gs, B ≤ g) (hB : B ≤ w.heap.size) : Below B w b :=
  ⟨ht.os.trans h.os, ht.tape.trans h.tape, ht.output.trans h.output, Nat.le_trans h.size ht.size, fun k hk => (ht.block k (by have := h.size; omega) (fun e => by have := hg k e; omega)).trans (h.block k hk)⟩
theorem Tch.box {gs : List Nat} {w w' : World} (ht : Tch gs w w') {g : Nat} {t : TypeId} {v : Value} (h : BoxAt w g t v) (hg : g ∉ gs) : BoxAt w' g t v := by
  unfold BoxAt; rw [ht.block g h.lt hg]; exact h

end Bw
end Go.Proofs.YtjgliinpaadbnaaGreatDoor
namespace Go.Proofs.YtjgliinpaadbnaaGreatDoor
open Go.ChangeShapes Go.WideShapes Go.ChangeAt Go.RowKit Go.Sort
namespace Ww
open Wm
open Bw (Tch bl2 cell_kept)
/-- a block that is known whole -/
def BlkAt (w : World) (g : Nat) (cs : List Value) (T : TypeId) : Prop := w.heap[g]? = some (.cells cs.toArray T (0, 0))
def NoW (cs : List Value) : Prop := ∀ v ∈ cs, ∀ x, v ≠ .int .u32 x
theorem BlkAt.lt {w : World} {g : Nat} {cs : List Value} {T : TypeId} (h : BlkAt w g cs T) : g < w.heap.size := by
  rcases Nat.lt_or_ge g w.heap.size with h' | h'
  · exact h'
  · unfold BlkAt at h; rw [Array.getElem?_eq_none h'] at h; cases h
theorem BlkAt.kept {w w' : World} {g : Nat} {cs : List Value} {T : TypeId} (h : BlkAt w g cs T) (hb : Below w.heap.size w w') : BlkAt w' g cs T := by
  unfold BlkAt; rw [hb.block g h.lt]; exact h
theorem BlkAt.tch {gs : List Nat} {w w' : World} {g : Nat} {cs : List Value} {T : TypeId} (h : BlkAt w g cs T) (ht : Tch gs w w') (hg : g ∉ gs) : BlkAt w' g cs T := by
  unfold BlkAt; rw [ht.block g h.lt hg]; exact h
theorem BlkAt.cell {w : World} {g : Nat} {cs : List Value} {T : TypeId} (h : BlkAt w g cs T) {i : Nat} {v : Value} (hi : cs[i]? = some v) : w.cell? ⟨g, i, none⟩ = some v := by
  rw [cell_of_row w g i _ _ _ h]; simpa using hi
theorem BlkAt.free {w : World} {g : Nat} {cs : List Value} {T : TypeId} (h : BlkAt w g cs T) (i : Nat) : w.frozen? ⟨g, i, none⟩ = false := frozen_of_row w g i _ _ h
theorem BlkAt.set {w : World} {g : Nat} {cs : List Value} {T : TypeId} (h : BlkAt w g cs T) (i : Nat) (v : Value) : BlkAt (w.setCell ⟨g, i, none⟩ v) g (cs.set i v) T := by
  have := heap_setCell_same w g i _ _ v h
  unfold BlkAt
  rw [this, List.setIfInBounds_toArray]
/-- words lie in no such block -/
theorem IsW.tch {w w' : World} {v : Value} {xs : List Nat} {g : Nat} {cs : List Value} {T : TypeId} (h : IsW w v xs) (hb : BlkAt w g cs T) (hn : NoW cs) (ht : Tch [g] w w') : IsW w' v xs := by
  obtain ⟨a, c, h1, h2, h3, h4, h5, h6⟩ := h
  refine ⟨a, c, h1, h2, h3, h4, fun x hx i hi => ?_, h6⟩
  have hc := h5 x hx i hi
  have hne : (x.add i).block ≠ g := by
    intro e
    have hc' := hc
    generalize x.add i = p at hc' e
    obtain ⟨k, o, t⟩ := p
    simp only at e
    subst e
    unfold World.cell? at hc'
    rw [show w.heap[k]? = some (.cells cs.toArray T (0, 0)) from hb] at hc'
    simp only at hc'
    have hm : Value.int .u32 (xs.getD i 0 : Int) ∈ cs := by
      have h7 : t = none ∧ cs[o]? = some (.int .u32 (xs.getD i 0 : Int)) := by simpa using hc'
      exact List.mem_of_getElem? h7.2
    exact hn _ hm _ rfl
  have hlt : (x.add i).block < w.heap.size := by
    rcases Nat.lt_or_ge (x.add i).block w.heap.size with h' | h'
    · exact h'
    · unfold World.cell? at hc
      rw [Array.getElem?_eq_none h'] at hc
      simp at hc
  have hblk := ht.block (x.add i).block hlt (by simpa using hne)
  rw [World.cell?_of_block (w := w) hblk]
  exact hc
/-- the whole number r lies at offset o of block g -/
def ZAt (w : World) (g o : Nat) (r : Int) : Prop := ∃ va xs, w.cell? ⟨g, o, none⟩ = some (.bool (decide (r < 0))) ∧ w.cell? ⟨g, o + 1, none⟩ = some va ∧ IsW w va xs ∧ trimW xs ∧ valW xs = r.natAbs
theorem ZAt.kept {w w' : World} {g o : Nat} {r : Int} (h : ZAt w g o r) (hb : Below w.heap.size w w') : ZAt w' g o r := by
  obtain ⟨va, xs, h1, h2, h3, h4, h5⟩ := h
  exact ⟨va, xs, cell_kept hb h1, cell_kept hb h2, h3.below hb, h4, h5⟩
theorem cell_tch {gs : List Nat} {w w' : World} {a : Addr} {v : Value} (h : w.cell? a = some v) (ht : Tch gs w w') (hg : a.block ∉ gs) : w'.cell? a = some v := by
  have hlt : a.block < w.heap.size := by
    rcases Nat.lt_or_ge a.block w.heap.size with h' | h'
    · exact h'
    · unfold World.cell? at h
      rw [Array.getElem?_eq_none h'] at h
      simp at h
  rw [World.cell?_of_block (w := w) (ht.block a.block hlt hg)]
  exact h
theorem ZAt.tch {w w' : World} {g o : Nat} {r : Int} (h : ZAt w g o r) {k : Nat} {cs : List Value} {T : TypeId} (hb : BlkAt w k cs T) (hn : NoW cs) (ht : Tch [k] w w') (hne : g ≠ k) : ZAt w' g o r := by
  obtain ⟨va, xs, h1, h2, h3, h4, h5⟩ := h
  exact ⟨va, xs, cell_tch h1 ht (by simpa using hne), cell_tch h2 ht (by simpa using hne), h3.tch hb hn ht, h4, h5⟩
/-- a number of its own in a new variable -/
def zvC : List Value := [.bool false, .slice none 0 0]
theorem zv_new (w : World) : BlkAt (w.alloc (.cells #[.bool false, .slice none 0 0] 85)) w.heap.size zvC 85 := heap_alloc_new w _
def sliceB (v : Value) : Prop := ∃ a l c, v = .slice a l c
theorem IsW.sliceB {w : World} {v : Value} {xs : List Nat} (h : IsW w v xs) : sliceB v := by
  obtain ⟨a, c, h1, _⟩ := h
  exact ⟨a, _, c, h1⟩
/-- a variable of an Int -/
def IntV (cs : List Value) : Prop := ∃ b a l c, cs = [.bool b, .slice a l c]
theorem IntV.noW {cs : List Value} (h : IntV cs) : NoW cs := by
  obtain ⟨b, a, l, c, rfl⟩ := h
  intro v hv x e
  subst e
  simp at hv
theorem zv_int : IntV zvC := ⟨false, none, 0, 0, rfl⟩
/-- what a method of a number leaves: the number in its variable, all else as it was -/
def OutZ (w w' : World) (g o : Nat) (cs : List Value) (T : TypeId) (r : Int) : Prop :=
  Tch [g] w w' ∧ ∃ va xs, IsW w' va xs ∧ trimW xs ∧ valW xs = r.natAbs ∧ BlkAt w' g ((cs.set (o + 1) va).set o (.bool (decide (r < 0)))) T
theorem OutZ.z {w w' : World} {g o : Nat} {cs : List Value} {T : TypeId} {r : Int} (h : OutZ w w' g o cs T r) (hl : o + 1 < cs.length) : ZAt w' g o r := by
  obtain ⟨_, va, xs, h1, h2, h3, h4⟩ := h
  refine ⟨va, xs, h4.cell ?_, h4.cell ?_, h1, h2, h3⟩
  · rw [List.getElem?_set_self (by rw [List.length_set]; omega)]
  · rw [List.getElem?_set_ne (by omega), List.getElem?_set_self (by omega)]
theorem OutZ.int {w w' : World} {g : Nat} {cs : List Value} {T : TypeId} {r : Int} (h : OutZ w w' g 0 cs T r) (hi : IntV cs) : ZAt w' g 0 r ∧ ∃ cs', BlkAt w' g cs' T ∧ IntV cs' := by
  obtain ⟨b, a, l, c, rfl⟩ := hi
  refine ⟨h.z (by simp), ?_⟩
  obtain ⟨_, va, xs, h1, h2, h3, h4⟩ := h
  obtain ⟨a', l', c', rfl⟩ := h1.sliceB
  exact ⟨_, h4, _, _, _, _, rfl⟩
theorem OutZ.below {w w0 w' : World} {g o : Nat} {cs : List Value} {T : TypeId} {r : Int} (hb : Below w.heap.size w w0) (h : OutZ w0 w' g o cs T r) (hg : w.heap.size ≤ g) : Below w.heap.size w w' :=
  Tch.below hb h.1 (by simpa using hg) (Nat.le_refl _)
theorem OutZ.pre {w w0 w' : World} {g o : Nat} {cs : List Value} {T : TypeId} {r : Int} (h : OutZ w0 w' g o cs T r) (hb : Below w.heap.size w w0) : OutZ w w' g o cs T r :=
  ⟨(Tch.of hb).trans h.1, h.2⟩
theorem trim_pos {xs : List Nat} {n : Nat} (ht : trimW xs) (hok : okW xs) (hv : valW xs = n) : (0 < xs.length ↔ 0 < n) := by
  constructor
  · intro h
    rcases ht with rfl | h1
    · simp at h
    · have hk : xs.length - 1 < xs.length := by omega
      have := val_split xs (xs.length - 1) hk
      have h2 : 1 ≤ xs.getD (xs.length - 1) 0 := by omega
      have h3 : 0 < 2 ^ (32 * (xs.length - 1)) := Nat.two_pow_pos _
      have h4 : 0 < 2 ^ (32 * (xs.length - 1)) * (xs.getD (xs.length - 1) 0 + 4294967296 * valW (xs.drop (xs.length - 1 + 1))) := Nat.mul_pos h3 (by omega)
      omega
  · intro h
    rcases Nat.eq_zero_or_pos xs.length with h1 | h1
    · have : xs = [] := List.eq_nil_of_length_eq_zero h1
      subst this
      simp [valW] at hv
      omega
    · exact h1
set_option maxHeartbeats 4000000 in
set_option maxRecDepth 100000 in
theorem give_z (g o : Nat) (cs : List Value) (T : TypeId) (nb : Bool) (va : Value) (xs : List Nat) (r : Int) (w : World) (hB : BlkAt w g cs T) (hn : NoW cs) (h0 : ∃ b, cs[o]? = some (.bool b)) (h1 : ∃ a l c, cs[o + 1]? = some (.slice a l c)) (hW : IsW w va xs) (ht : trimW xs) (hv : valW xs = r.natAbs) (hnb : r ≠ 0 → nb = decide (r < 0)) :
    Calls Tryz.prog 97 #[.pointer (some ⟨g, o, none⟩), .bool nb, va] w fun e w' => e = .returned (.pointer (some ⟨g, o, none⟩)) ∧ OutZ w w' g o cs T r := by
  obtain ⟨b, h0⟩ := h0
  obtain ⟨a1, l1, c1, h1⟩ := h1
  have HW := Hid.mk hW
  have hok : okW xs := by obtain ⟨_, _, _, _, _, _, _, h⟩ := hW; exact h
  have hpos := trim_pos ht hok hv
  obtain ⟨a, ca, rfl, hr⟩ := hW
  have hc0 := hB.cell h0
  have hc1 := hB.cell h1
  have hf0 := hB.free o
  have hf1 := hB.free (o + 1)
  have hb1 := hB.set (o + 1) (.slice a xs.length ca)
  have hres : (nb && decide (0 < xs.length)) = decide (r < 0) := by
    by_cases hz : r = 0
    · subst hz
      have : ¬ 0 < xs.length := by rw [hpos]; simp
      rw [decide_eq_false this]
      simp
    · rw [hnb hz, decide_eq_true (hpos.2 (by omega))]
      simp
  have hb2 := hb1.set o (.bool (decide (r < 0)))
  have htt : Tch [g] w ((w.setCell ⟨g, o + 1, none⟩ (.slice a xs.length ca)).setCell ⟨g, o, none⟩ (.bool (decide (r < 0)))) := ((Tch.refl [g] w).setK (by simp) _ _).setK (by simp) _ _
  have HST := Hid.mk hb2
  have HTT := Hid.mk htt
  have HT := Hid.mk ht
  have HV := Hid.mk hv
  have HB := Hid.mk hB
  have HN := Hid.mk hn
  have hc0' : (w.setCell ⟨g, o + 1, none⟩ (.slice a xs.length ca)).cell? ⟨g, o, none⟩ = some (.bool b) := hb1.cell (by rw [List.getElem?_set_ne (by omega)]; exact h0)
  have hf0' := hb1.free o
  obtain ⟨nA, hnA⟩ : ∃ n, n = xs.length := ⟨_, rfl⟩
  generalize hRd : decide (r < 0) = R at *
  have HRD := Hid.mk hRd
  clear hRd
  rw [← hnA] at hc0' hf0' hres HST HTT ⊢
  have HW2 : Hid (IsW w (.slice a nA ca) xs) := Hid.mk (by rw [hnA]; exact HW.out)
  have HRES := Hid.mk hres
  clear hB hn hr hb1 hb2 htt ht hv h0 h1 hpos hnb hok hnA HW hres
  cases nb with
  | false =>
    have hR : R = false := by have := HRES.out; simpa using this.symm
    subst hR
    go_enter Tryz.func97, Tryz.ntmps97
    go_wp2_with fail
    go_ret
    exact ⟨rfl, HTT.out, _, xs, HW2.out.tch HB.out HN.out HTT.out, HT.out, HV.out, by rw [HRD.out]; exact HST.out⟩
  | true =>
    by_cases hA : 0 < nA
    · have hA' : (0 : Int) < (nA : Int) := by omega
      have hR : R = true := by have := HRES.out; rw [decide_eq_true hA] at this; exact this.symm
      subst hR
      go_enter Tryz.func97, Tryz.ntmps97
      go_wp2_with fail
      go_ret
      exact ⟨rfl, HTT.out, _, xs, HW2.out.tch HB.out HN.out HTT.out, HT.out, HV.out, by rw [HRD.out]; exact HST.out⟩
    · have hA' : nA = 0 := by omega
      subst hA'
      have hR : R = false := by have := HRES.out; simpa using this.symm
      subst hR
      go_enter Tryz.func97, Tryz.ntmps97
      go_wp2_with fail
      go_ret
      exact ⟨rfl, HTT.out, _, xs, HW2.out.tch HB.out HN.out HTT.out, HT.out, HV.out, by rw [HRD.out]; exact HST.out⟩
set_option maxHeartbeats 4000000 in
set_option maxRecDepth 100000 in
theorem setInt64_z (g o : Nat) (cs : List Value) (T : TypeId) (r : Int) (w : World) (hB : BlkAt w g cs T) (hn : NoW cs) (h0 : ∃ b, cs[o]? = some (.bool b)) (h1 : ∃ a l c, cs[o + 1]? = some (.slice a l c)) (hr1 : -4611686018427387903 ≤ r) (hr2 : r ≤ 4611686018427387903) :
    Calls Tryz.prog 96 #[.pointer (some ⟨g, o, none⟩), .int .i64 r] w fun e w' => e = .returned (.pointer (some ⟨g, o, none⟩)) ∧ OutZ w w' g o cs T r := by
  have HB := Hid.mk hB
  have HN := Hid.mk hn
  have HH0 := Hid.mk h0
  have HH1 := Hid.mk h1
  have hW := fun W => words_le r.natAbs W (by omega)
  obtain ⟨U, hU⟩ : ∃ U : Int, U = ((r.natAbs : Nat) : Int) := ⟨_, rfl⟩
  rw [← hU] at hW
  have HW := Hid.mk hW
  clear hB hn h0 h1 hW
  by_cases hneg : r < 0
  · have e1 : IntKind.u64.wrap r = r + 18446744073709551616 := by rw [IntKind.wrap_u64]; omega
    have e2 : IntKind.u64.wrap (-(r + 18446744073709551616)) = U := by rw [IntKind.wrap_u64]; omega
    have HNB : Hid (r ≠ 0 → true = decide (r < 0)) := Hid.mk (fun _ => (decide_eq_true hneg).symm)
    clear hU
    go_enter Tryz.func96, Tryz.ntmps96
    go_wp2_with fail
    refine (HW.out _).mono ?_
    rintro e w1 ⟨v', ys, rfl, hy, hyv, hyt, hyl, hb1⟩
    have HG := Hid.mk (give_z g o cs T true v' ys r w1 (HB.out.kept hb1) HN.out HH0.out HH1.out hy hyt hyv HNB.out)
    have HB1 := Hid.mk hb1
    clear hy hyv hyt hyl hb1
    go_wp2_with fail
    with_reducible refine HG.out.mono ?_
    rintro e w2 ⟨rfl, hO⟩
    have HO := Hid.mk hO
    clear hO
    go_wp2_with fail
    go_ret
    exact ⟨rfl, HO.out.pre HB1.out⟩
  · have hUr : U = r := by omega
    rw [hUr] at HW
    have HNB : Hid (r ≠ 0 → false = decide (r < 0)) := Hid.mk (fun _ => (decide_eq_false hneg).symm)
    have hneg' : 0 ≤ r := by omega
    have hd : decide (r < 0) = false := decide_eq_false hneg
    clear hU hUr
    go_enter Tryz.func96, Tryz.ntmps96
    go_wp2_with fail
    refine (HW.out _).mono ?_
    rintro e w1 ⟨v', ys, rfl, hy, hyv, hyt, hyl, hb1⟩
    have HG := Hid.mk (give_z g o cs T false v' ys r w1 (HB.out.kept hb1) HN.out HH0.out HH1.out hy hyt hyv HNB.out)
    have HB1 := Hid.mk hb1
    clear hy hyv hyt hyl hb1
    go_wp2_with fail
    with_reducible refine HG.out.mono ?_
    rintro e w2 ⟨rfl, hO⟩
    have HO := Hid.mk hO
    clear hO
    go_wp2_with fail
    go_ret
    exact ⟨rfl, HO.out.pre HB1.out⟩
set_option maxHeartbeats 4000000 in
set_option maxRecDepth 100000 in
theorem newInt_z (r : Int) (w : World) (hr1 : -4611686018427387903 ≤ r) (hr2 : r ≤ 4611686018427387903) :
    Calls Tryz.prog 53 #[.int .i64 r] w fun e w' => e = .returned (.pointer (some ⟨w.heap.size, 0, none⟩)) ∧ ZAt w' w.heap.size 0 r ∧ (∃ cs, BlkAt w' w.heap.size cs 85 ∧ IntV cs) ∧ Below w.heap.size w w' := by
  have hz := zv_new w
  have HS := Hid.mk (setInt64_z w.heap.size 0 zvC 85 r _ hz zv_int.noW ⟨_, rfl⟩ ⟨_, _, _, rfl⟩ hr1 hr2)
  have HB := Hid.mk (show Below w.heap.size w (w.alloc (.cells #[.bool false, .slice none 0 0] 85)) from (Below.refl _ _).alloc (Nat.le_refl _) _)
  clear hz
  go_enter Tryz.func53, Tryz.ntmps53
  go_wp2_with fail
  refine HS.out.mono ?_
  rintro e w1 ⟨rfl, hO⟩
  have HO := Hid.mk hO
  clear hO
  go_wp2_with fail
  go_ret
  exact ⟨rfl, (HO.out.int zv_int).1, (HO.out.int zv_int).2, HO.out.below HB.out (Nat.le_refl _)⟩
end Ww
end Go.Proofs.YtjgliinpaadbnaaGreatDoor
namespace Go.Proofs.YtjgliinpaadbnaaGreatDoor
open Go.ChangeShapes Go.WideShapes Go.ChangeAt Go.RowKit Go.Sort
namespace Ww
open Wm Sm
open Bw (Tch bl2 cell_kept)
set_option linter.unusedVariables false
/-- the fraction a over b lies in block g, as it stands -/
def RatAt (w : World) (g : Nat) (a b : Int) : Prop := ∃ va xs vb ys, BlkAt w g [.bool (decide (a < 0)), va, .bool (decide (b < 0)), vb] 87 ∧ (IsW w va xs ∧ trimW xs ∧ valW xs = a.natAbs) ∧ IsW w vb ys ∧ trimW ys ∧ valW ys = b.natAbs
theorem RatAt.num {w : World} {g : Nat} {a b : Int} (h : RatAt w g a b) : ZAt w g 0 a := by
  obtain ⟨va, xs, vb, ys, hB, ⟨h1, h2, h3⟩, _⟩ := h
  exact ⟨va, xs, hB.cell rfl, hB.cell rfl, h1, h2, h3⟩
theorem RatAt.den {w : World} {g : Nat} {a b : Int} (h : RatAt w g a b) : ZAt w g 2 b := by
  obtain ⟨va, xs, vb, ys, hB, _, h1, h2, h3⟩ := h
  exact ⟨vb, ys, hB.cell rfl, hB.cell rfl, h1, h2, h3⟩
theorem RatAt.kept {w w' : World} {g : Nat} {a b : Int} (h : RatAt w g a b) (hb : Below w.heap.size w w') : RatAt w' g a b := by
  obtain ⟨va, xs, vb, ys, hB, ⟨h1, h2, h3⟩, h4, h5, h6⟩ := h
  exact ⟨va, xs, vb, ys, hB.kept hb, ⟨h1.below hb, h2, h3⟩, h4.below hb, h5, h6⟩
/-- a variable of a fraction -/
def RatV (cs : List Value) : Prop := ∃ b1 a1 l1 c1 b2 a2 l2 c2, cs = [.bool b1, .slice a1 l1 c1, .bool b2, .slice a2 l2 c2]
theorem RatV.noW {cs : List Value} (h : RatV cs) : NoW cs := by
  obtain ⟨b1, a1, l1, c1, b2, a2, l2, c2, rfl⟩ := h
  intro v hv x e
  subst e
  simp at hv
theorem RatAt.var {w : World} {g : Nat} {a b : Int} (h : RatAt w g a b) : ∃ cs, BlkAt w g cs 87 ∧ RatV cs := by
  obtain ⟨va, xs, vb, ys, hB, ⟨h1, _⟩, h4, _⟩ := h
  obtain ⟨a1, l1, c1, rfl⟩ := h1.sliceB
  obtain ⟨a2, l2, c2, rfl⟩ := h4.sliceB
  exact ⟨_, hB, _, _, _, _, _, _, _, _, rfl⟩
theorem RatAt.tch {w w' : World} {g : Nat} {a b : Int} (h : RatAt w g a b) {k : Nat} {cs : List Value} {T : TypeId} (hb : BlkAt w k cs T) (hn : NoW cs) (ht : Tch [k] w w') (hne : g ≠ k) : RatAt w' g a b := by
  obtain ⟨va, xs, vb, ys, hB, ⟨h1, h2, h3⟩, h4, h5, h6⟩ := h
  exact ⟨va, xs, vb, ys, hB.tch ht (by simpa using hne), ⟨h1.tch hb hn ht, h2, h3⟩, h4.tch hb hn ht, h5, h6⟩
theorem W_ok {w : World} {v : Value} {xs : List Nat} (h : IsW w v xs) : okW xs := by obtain ⟨_, _, _, _, _, _, _, h⟩ := h; exact h
/-- words that tell 1 -/
theorem one_words {xs : List Nat} (ht : trimW xs) (hv : valW xs = 1) : xs = [1] := by
  have hl : xs.length ≤ 1 := trimW_len ht 1 (by rw [hv]; decide)
  match xs, hl with
  | [], _ => simp [valW] at hv
  | [x], _ => simp [valW] at hv; rw [hv]
theorem cell0 {w : World} {a : Option Addr} {n c x : Nat} {xs : List Nat} (h : IsW w (.slice a n c) xs) (hx : xs = [x]) : ∃ p, a = some p ∧ n = 1 ∧ w.cell? p = some (.int .u32 (x : Int)) := by
  obtain ⟨a', c', e, h1, h2, h3, h4, h5⟩ := h
  subst hx
  cases e
  cases a with
  | none => exact absurd (h3 rfl) (by simp)
  | some p =>
    refine ⟨p, rfl, rfl, ?_⟩
    have := h4 p rfl 0 (by simp)
    rw [addr0] at this
    simpa using this
theorem not_one {w : World} {a : Option Addr} {n c : Nat} {xs : List Nat} (h : IsW w (.slice a n c) xs) (h0 : 0 < valW xs) (h1 : valW xs ≠ 1) : n ≠ 1 ∨ ∃ p x, a = some p ∧ n = 1 ∧ x ≠ 1 ∧ xs = [x] ∧ w.cell? p = some (.int .u32 ((x : Nat) : Int)) := by
  have hl : n = xs.length := by obtain ⟨a', c', e, _⟩ := h; cases e; rfl
  by_cases h2 : xs.length = 1
  · right
    match xs, h2 with
    | [x], _ =>
      obtain ⟨p, h3, h4, h5⟩ := cell0 h rfl
      exact ⟨p, x, h3, h4, by simpa [valW] using h1, rfl, h5⟩
  · left; omega
theorem len_pos {w : World} {a : Option Addr} {n c : Nat} {xs : List Nat} (h : IsW w (.slice a n c) xs) (h0 : 0 < valW xs) : 0 < n := by
  have hl : n = xs.length := by obtain ⟨a', c', e, _⟩ := h; cases e; rfl
  rcases Nat.eq_zero_or_pos xs.length with h1 | h1
  · have : xs = [] := List.eq_nil_of_length_eq_zero h1
    subst this
    simp [valW] at h0
  · omega
theorem len_zero {w : World} {a : Option Addr} {n c : Nat} {xs : List Nat} (h : IsW w (.slice a n c) xs) (ht : trimW xs) (h0 : valW xs = 0) : n = 0 := by
  have hl : n = xs.length := by obtain ⟨a', c', e, _⟩ := h; cases e; rfl
  have := (trim_pos ht (W_ok h) h0).1
  omega
set_option maxHeartbeats 4000000 in
set_option maxRecDepth 100000 in
theorem den_z (g : Nat) (a b : Int) (w : World) (h : RatAt w g a b) (hb : b ≠ 0) :
    Calls Tryz.prog 95 #[.pointer (some ⟨g, 0, none⟩)] w fun e w' => e = .returned (.pointer (some ⟨g, 2, none⟩)) ∧ w' = w := by
  obtain ⟨va, xs, vb, ys, hB, _, h4, h5, h6⟩ := h
  obtain ⟨lb, nb, cb, rfl⟩ := h4.sliceB
  have hp := len_pos h4 (by rw [h6]; omega)
  have c3 := hB.cell (i := 3) rfl
  have hne : ((nb : Int) == 0) = false := by simp; omega
  clear hB h4 h5 h6 hb hp
  go_enter Tryz.func95, Tryz.ntmps95
  go_wp2_with fail
  go_ret
  exact ⟨rfl, rfl⟩
theorem gcd_abs (p q : Int) : Nat.gcd p.natAbs q.natAbs = Int.gcd p q := rfl
theorem numL_abs (p q : Int) : (numL p q).natAbs = p.natAbs / Int.gcd p q := by
  unfold numL
  have h : (Int.gcd p q : Int) ∣ p := Int.gcd_dvd_left ..
  rw [Int.natAbs_ediv_of_dvd h]
  simp
theorem numL_neg {p q : Int} (hq : 0 < q) : decide (numL p q < 0) = decide (p < 0) := by
  have e := (low_mul (n := p) (d := q)).1
  have hg : (0 : Int) < Int.gcd p q := by have := gcd_pos (n := p) hq; omega
  rw [decide_eq_decide]
  constructor
  · intro h
    rw [e]
    exact Int.mul_neg_of_pos_of_neg hg h
  · intro h
    rcases Int.lt_or_le (numL p q) 0 with h1 | h1
    · exact h1
    · have := Int.mul_nonneg (Int.le_of_lt hg) h1
      omega
theorem denL_abs (p q : Int) : (denL p q).natAbs = q.natAbs / Int.gcd p q := by
  unfold denL
  have h : (Int.gcd p q : Int) ∣ q := Int.gcd_dvd_right ..
  rw [Int.natAbs_ediv_of_dvd h]
  simp
theorem low_zero {q : Int} (hq : 0 < q) : numL 0 q = 0 ∧ denL 0 q = 1 := by
  have := low_eq (n := 0) (d := q) (n' := 0) (d' := 1) hq (by omega) (by simp)
  rw [this.1, this.2]
  exact low_of_cop (by simp)
set_option maxHeartbeats 16000000 in
set_option maxRecDepth 100000 in
theorem norm_0 (g : Nat) (p q : Int) (w : World) (h : RatAt w g p q) (hq : 0 < q) (hp1 : -4611686018427387903 ≤ p) (hp2 : p ≤ 4611686018427387903) (hq2 : q ≤ 4611686018427387903) (hp : p = 0) :
    Calls Tryz.prog 142 #[.pointer (some ⟨g, 0, none⟩)] w fun e w' => e = .returned (.pointer (some ⟨g, 0, none⟩)) ∧ RatAt w' g (numL p q) (denL p q) ∧ Tch [g] w w' := by
  subst hp
  rw [(low_zero hq).1, (low_zero hq).2]
  obtain ⟨va, xs, vb, ys, hB, ⟨x1, x2, x3⟩, y1, y2, y3⟩ := h
  obtain ⟨la, na, ca, rfl⟩ := x1.sliceB
  obtain ⟨lb, nb, cb, rfl⟩ := y1.sliceB
  have hqn : decide (q < 0) = false := decide_eq_false (by omega)
  rw [hqn] at hB
  have c0 := hB.cell (i := 0) rfl
  have c1 := hB.cell (i := 1) rfl
  have c2 := hB.cell (i := 2) rfl
  have c3 := hB.cell (i := 3) rfl
  have hnb := len_pos y1 (by rw [y3]; omega)
  have hnb' : ((nb : Int) == 0) = false := by simp; omega
  have hna := len_zero x1 x2 (by rw [x3]; rfl)
  subst hna
  have HS := Hid.mk (setInt64_z g 2 _ _ 1 w hB (RatV.noW ⟨_, _, _, _, _, _, _, _, rfl⟩) ⟨_, rfl⟩ ⟨_, _, _, rfl⟩ (by omega) (by omega))
  have HX1 := Hid.mk x1
  have HX2 := Hid.mk x2
  have HX3 := Hid.mk x3
  have HB := Hid.mk hB
  clear x1 x2 x3 y1 y2 y3 hB hq hp1 hp2 hq2 hnb hqn
  simp only [Int.lt_irrefl, decide_false] at c0 HB HS
  go_enter Tryz.func142, Tryz.ntmps142
  go_wp2_with fail
  with_reducible refine HS.out.mono ?_
  rintro e w1 ⟨rfl, hO⟩
  have HO := Hid.mk hO
  clear hO
  go_wp2_with fail
  go_ret
  refine ⟨rfl, ?_, HO.out.1⟩
  obtain ⟨ht, v1, zs, h1, h2, h3, h4⟩ := HO.out
  exact ⟨_, xs, v1, zs, h4, ⟨HX1.out.tch HB.out (RatV.noW ⟨_, _, _, _, _, _, _, _, rfl⟩) ht, HX2.out, HX3.out⟩, h1, h2, h3⟩
set_option maxHeartbeats 16000000 in
set_option maxRecDepth 100000 in
theorem norm_1 (g : Nat) (p q : Int) (w : World) (h : RatAt w g p q) (hq : 0 < q) (hp1 : -4611686018427387903 ≤ p) (hp2 : p ≤ 4611686018427387903) (hq2 : q ≤ 4611686018427387903) (hp : p ≠ 0) (hq1 : q = 1) :
    Calls Tryz.prog 142 #[.pointer (some ⟨g, 0, none⟩)] w fun e w' => e = .returned (.pointer (some ⟨g, 0, none⟩)) ∧ RatAt w' g (numL p q) (denL p q) ∧ Tch [g] w w' := by
  have hlo := low_of_cop (a := p) (b := q) (by rw [hq1]; simp)
  rw [hlo.1, hlo.2]
  have HR := Hid.mk h
  obtain ⟨va, xs, vb, ys, hB, ⟨x1, x2, x3⟩, y1, y2, y3⟩ := h
  obtain ⟨la, na, ca, rfl⟩ := x1.sliceB
  obtain ⟨lb, nb, cb, rfl⟩ := y1.sliceB
  have hqn : decide (q < 0) = false := decide_eq_false (by omega)
  rw [hqn] at hB
  have c0 := hB.cell (i := 0) rfl
  have c1 := hB.cell (i := 1) rfl
  have c2 := hB.cell (i := 2) rfl
  have c3 := hB.cell (i := 3) rfl
  have hnb := len_pos y1 (by rw [y3]; omega)
  have hnb' : ((nb : Int) == 0) = false := by simp; omega
  obtain ⟨pp, rfl, rfl, hcc⟩ := cell0 y1 (one_words y2 (by rw [y3, hq1]; rfl))
  have hna := len_pos x1 (by rw [x3]; omega)
  have hna' : ((na : Int) == 0) = false := by simp; omega
  clear x1 x2 x3 y1 y2 y3 hB hq hp1 hp2 hq2 hnb hqn hlo hp hna hq1
  go_enter Tryz.func142, Tryz.ntmps142
  go_wp2_with fail
  go_ret
  exact ⟨rfl, HR.out, Tch.refl _ _⟩
set_option maxHeartbeats 16000000 in
set_option maxRecDepth 100000 in
theorem norm_2 (g : Nat) (p q : Int) (w : World) (h : RatAt w g p q) (hq : 0 < q) (hp1 : -4611686018427387903 ≤ p) (hp2 : p ≤ 4611686018427387903) (hq2 : q ≤ 4611686018427387903) (hp : p ≠ 0) (hq1 : q ≠ 1) :
    Calls Tryz.prog 142 #[.pointer (some ⟨g, 0, none⟩)] w fun e w' => e = .returned (.pointer (some ⟨g, 0, none⟩)) ∧ RatAt w' g (numL p q) (denL p q) ∧ Tch [g] w w' := by
  have HR := Hid.mk h
  obtain ⟨va, xs, vb, ys, hB, ⟨x1, x2, x3⟩, y1, y2, y3⟩ := h
  obtain ⟨la, na, ca, rfl⟩ := x1.sliceB
  obtain ⟨lb, nb, cb, rfl⟩ := y1.sliceB
  have hqn : decide (q < 0) = false := decide_eq_false (by omega)
  rw [hqn] at hB
  have c0 := hB.cell (i := 0) rfl
  have c1 := hB.cell (i := 1) rfl
  have c2 := hB.cell (i := 2) rfl
  have c3 := hB.cell (i := 3) rfl
  have hnb := len_pos y1 (by rw [y3]; omega)
  have hnb' : ((nb : Int) == 0) = false := by simp; omega
  have hna := len_pos x1 (by rw [x3]; omega)
  have hna' : ((na : Int) == 0) = false := by simp; omega
  have hxs : valW xs < 2 ^ 62 := by rw [x3]; omega
  have hys : valW ys < 2 ^ 62 := by rw [y3]; omega
  have hCM := common_any _ _ xs ys w.drew x1 y1 x2 y2 hxs hys (by rw [y3]; omega)
  rw [x3, y3, gcd_abs] at hCM
  have HCM := Hid.mk hCM
  have HG0 := Hid.mk (gcd_pos (n := p) hq)
  have hdvp : Int.gcd p q ≤ p.natAbs := Nat.gcd_le_left _ (by omega)
  have hdvq : Int.gcd p q ≤ q.natAbs := Nat.gcd_le_right _ (by omega)
  have HDP := Hid.mk (fun W vg zs (hb : Below w.heap.size w W) (hz : IsW W vg zs) (ht : trimW zs) (hv : valW zs = Int.gcd p q) => div_any _ vg xs zs W (x1.below hb) hz x2 ht hxs (by omega) (by rw [hv]; exact gcd_pos hq) (by rw [hv, x3]; exact hdvp))
  have HDQ := Hid.mk (fun W vg zs (hb : Below w.heap.size w W) (hz : IsW W vg zs) (ht : trimW zs) (hv : valW zs = Int.gcd p q) => div_any _ vg ys zs W (y1.below hb) hz y2 ht hys (by omega) (by rw [hv]; exact gcd_pos hq) (by rw [hv, y3]; exact hdvq))
  have HVP := Hid.mk x3
  have HVQ := Hid.mk y3
  have HB := Hid.mk hB
  have hd1 := numL_neg (p := p) hq
  have hd2 : decide (denL p q < 0) = false := decide_eq_false (by have := denL_pos (n := p) hq; omega)
  have HFIN := Hid.mk (fun (v1 v3 : Value) W (h : BlkAt W g [.bool (decide (p < 0)), v1, .bool false, v3] 87) => (show BlkAt W g [.bool (decide (numL p q < 0)), v1, .bool (decide (denL p q < 0)), v3] 87 by rw [hd1, hd2]; exact h))
  have hyn := not_one y1 (by rw [y3]; omega) (by rw [y3]; omega)
  have hS0 : w.drew.cell? ⟨g, 1, none⟩ = some (.slice la na ca) ∧ w.drew.cell? ⟨g, 3, none⟩ = some (.slice lb nb cb) := ⟨c1, c3⟩
  clear hCM hxs hys hdvq hd1 hd2 x1 y1 hna hnb hB
  rcases hyn with hn | ⟨pp, yw, rfl, rfl, hyw, -, hcy⟩
  · have hn' : ((nb : Int) == 1) = false := by simp; omega
    clear hn
    clear x2 x3 y2 y3 hq hp1 hp2 hq2 hqn hp hq1 hdvp
    go_enter Tryz.func142, Tryz.ntmps142
    go_wp2_with fail
    go_region_held3 (fun w' => w'.cell? ⟨g, 1, none⟩ = some (.slice la na ca) ∧ w'.cell? ⟨g, 3, none⟩ = some (.slice lb nb cb)) (first | exact hS0 | exact hS1) (first
      | (go_at_call 162; with_reducible refine HCM.out.mono ?_; rintro e w1 ⟨vg, zs, rfl, z1, z2, z3, z4, hb1⟩
         have hS1 : w1.cell? ⟨g, 1, none⟩ = some (.slice la na ca) ∧ w1.cell? ⟨g, 3, none⟩ = some (.slice lb nb cb) := ⟨cell_kept hb1 hS0.1, cell_kept hb1 hS0.2⟩
         have HZ1 := Hid.mk z1
         have HZ2 := Hid.mk z2
         have HZ3 := Hid.mk z3
         have HB1 := Hid.mk (bl2 (drBw1 w) hb1)
         clear z1 z2 z3 z4 hb1 HCM))
    obtain ⟨lg, ng, cg, rfl⟩ := HZ1.out.sliceB
    have e0 := cell_kept HB1.out c0
    have e1 := cell_kept HB1.out c1
    have e3 := cell_kept HB1.out c3
    by_cases hG : Int.gcd p q = 1
    · obtain ⟨pg, rfl, rfl, hcg⟩ := cell0 HZ1.out (one_words HZ3.out (by rw [HZ2.out]; exact hG))
      have HRr := Hid.mk (show RatAt w1 g (numL p q) (denL p q) by rw [(low_of_cop hG).1, (low_of_cop hG).2]; exact HR.out.kept HB1.out)
      clear hG HDP HDQ HFIN
      go_wp2_with fail
      go_ret
      exact ⟨rfl, HRr.out, Tch.of HB1.out⟩
    · have hg0 : 0 < Int.gcd p q := HG0.out
      have HD1 := Hid.mk (HDP.out w1 _ zs HB1.out HZ1.out HZ3.out HZ2.out)
      have HD2 := Hid.mk (fun W hb => HDQ.out W _ zs (bl2 HB1.out hb) (HZ1.out.below hb) HZ3.out HZ2.out)
      have hno := not_one HZ1.out (by rw [HZ2.out]; exact hg0) (by rw [HZ2.out]; exact hG)
      clear hG hg0 HDP HDQ
      rcases hno with hn1 | ⟨pg, zg, rfl, rfl, hzg, -, hcg⟩
      · have hn1' : ((ng : Int) == 1) = false := by simp; omega
        clear hn1
        go_wp2_with fail
        with_reducible refine HD1.out.mono ?_
        rintro e w2 ⟨v1, v2, us, rfl, u1, u2, u3, hb2⟩
        have HU1 := Hid.mk u1
        have HU2 := Hid.mk u2
        have HU3 := Hid.mk u3
        have HB2 := Hid.mk (bl2 HB1.out hb2)
        have HB12 := Hid.mk hb2
        have e5 := cell_kept hb2 e3
        clear u1 u2 u3 hb2 e0 e1 e3 HD1
        go_wp2_with fail
        with_reducible refine (HD2.out _ HB12.out).mono ?_
        rintro e w3 ⟨v3, v4, ts, rfl, t1, t2, t3, hb3⟩
        have HT1 := Hid.mk t1
        have HT2 := Hid.mk t2
        have HT3 := Hid.mk t3
        have HB3 := Hid.mk (bl2 HB2.out hb3)
        have HU1' := Hid.mk (HU1.out.below hb3)
        clear t1 t2 t3 hb3 e5 HD2
        obtain ⟨s1, m1, k1, rfl⟩ := HU1.out.sliceB
        obtain ⟨s3, m3, k3, rfl⟩ := HT1.out.sliceB
        have hK := HB.out.kept HB3.out
        have f1 := hK.cell (i := 1) rfl
        have g1 := hK.free 1
        have hK1 := hK.set 1 (.slice s1 m1 k1)
        have f3 := hK1.cell (i := 3) rfl
        have g3 := hK1.free 3
        have HK := Hid.mk hK
        have HK2 := Hid.mk (hK1.set 3 (.slice s3 m3 k3))
        clear hK hK1
        go_wp2_with fail
        go_ret
        have ht : Tch [g] w3 ((w3.setCell ⟨g, 1, none⟩ (.slice s1 m1 k1)).setCell ⟨g, 3, none⟩ (.slice s3 m3 k3)) := ((Tch.refl [g] w3).setK (by simp) _ _).setK (by simp) _ _
        exact ⟨rfl, ⟨_, us, _, ts, HFIN.out _ _ _ HK2.out, ⟨HU1'.out.tch HK.out (RatV.noW ⟨_, _, _, _, _, _, _, _, rfl⟩) ht, HU3.out, by rw [HU2.out, HZ2.out, HVP.out]; exact (numL_abs p q).symm⟩, HT1.out.tch HK.out (RatV.noW ⟨_, _, _, _, _, _, _, _, rfl⟩) ht, HT3.out, by rw [HT2.out, HZ2.out, HVQ.out]; exact (denL_abs p q).symm⟩, (Tch.of HB3.out).trans ht⟩
      · have hzg' : ((zg : Int) == 1) = false := by simp; omega
        clear hzg
        go_wp2_with fail
        with_reducible refine HD1.out.mono ?_
        rintro e w2 ⟨v1, v2, us, rfl, u1, u2, u3, hb2⟩
        have HU1 := Hid.mk u1
        have HU2 := Hid.mk u2
        have HU3 := Hid.mk u3
        have HB2 := Hid.mk (bl2 HB1.out hb2)
        have HB12 := Hid.mk hb2
        have e5 := cell_kept hb2 e3
        clear u1 u2 u3 hb2 e0 e1 e3 HD1
        go_wp2_with fail
        with_reducible refine (HD2.out _ HB12.out).mono ?_
        rintro e w3 ⟨v3, v4, ts, rfl, t1, t2, t3, hb3⟩
        have HT1 := Hid.mk t1
        have HT2 := Hid.mk t2
        have HT3 := Hid.mk t3
        have HB3 := Hid.mk (bl2 HB2.out hb3)
        have HU1' := Hid.mk (HU1.out.below hb3)
        clear t1 t2 t3 hb3 e5 HD2
        obtain ⟨s1, m1, k1, rfl⟩ := HU1.out.sliceB
        obtain ⟨s3, m3, k3, rfl⟩ := HT1.out.sliceB
        have hK := HB.out.kept HB3.out
        have f1 := hK.cell (i := 1) rfl
        have g1 := hK.free 1
        have hK1 := hK.set 1 (.slice s1 m1 k1)
        have f3 := hK1.cell (i := 3) rfl
        have g3 := hK1.free 3
        have HK := Hid.mk hK
        have HK2 := Hid.mk (hK1.set 3 (.slice s3 m3 k3))
        clear hK hK1
        go_wp2_with fail
        go_ret
        have ht : Tch [g] w3 ((w3.setCell ⟨g, 1, none⟩ (.slice s1 m1 k1)).setCell ⟨g, 3, none⟩ (.slice s3 m3 k3)) := ((Tch.refl [g] w3).setK (by simp) _ _).setK (by simp) _ _
        exact ⟨rfl, ⟨_, us, _, ts, HFIN.out _ _ _ HK2.out, ⟨HU1'.out.tch HK.out (RatV.noW ⟨_, _, _, _, _, _, _, _, rfl⟩) ht, HU3.out, by rw [HU2.out, HZ2.out, HVP.out]; exact (numL_abs p q).symm⟩, HT1.out.tch HK.out (RatV.noW ⟨_, _, _, _, _, _, _, _, rfl⟩) ht, HT3.out, by rw [HT2.out, HZ2.out, HVQ.out]; exact (denL_abs p q).symm⟩, (Tch.of HB3.out).trans ht⟩
  · have hyw' : ((yw : Int) == 1) = false := by simp; omega
    clear hyw
    clear x2 x3 y2 y3 hq hp1 hp2 hq2 hqn hp hq1 hdvp
    go_enter Tryz.func142, Tryz.ntmps142
    go_wp2_with fail
    go_region_held3 (fun w' => w'.cell? ⟨g, 1, none⟩ = some (.slice la na ca) ∧ w'.cell? ⟨g, 3, none⟩ = some (.slice (some pp) 1 cb)) (first | exact hS0 | exact hS1) (first
      | (go_at_call 162; with_reducible refine HCM.out.mono ?_; rintro e w1 ⟨vg, zs, rfl, z1, z2, z3, z4, hb1⟩
         have hS1 : w1.cell? ⟨g, 1, none⟩ = some (.slice la na ca) ∧ w1.cell? ⟨g, 3, none⟩ = some (.slice (some pp) 1 cb) := ⟨cell_kept hb1 hS0.1, cell_kept hb1 hS0.2⟩
         have HZ1 := Hid.mk z1
         have HZ2 := Hid.mk z2
         have HZ3 := Hid.mk z3
         have HB1 := Hid.mk (bl2 (drBw1 w) hb1)
         clear z1 z2 z3 z4 hb1 HCM))
    obtain ⟨lg, ng, cg, rfl⟩ := HZ1.out.sliceB
    have e0 := cell_kept HB1.out c0
    have e1 := cell_kept HB1.out c1
    have e3 := cell_kept HB1.out c3
    by_cases hG : Int.gcd p q = 1
    · obtain ⟨pg, rfl, rfl, hcg⟩ := cell0 HZ1.out (one_words HZ3.out (by rw [HZ2.out]; exact hG))
      have HRr := Hid.mk (show RatAt w1 g (numL p q) (denL p q) by rw [(low_of_cop hG).1, (low_of_cop hG).2]; exact HR.out.kept HB1.out)
      clear hG HDP HDQ HFIN
      go_wp2_with fail
      go_ret
      exact ⟨rfl, HRr.out, Tch.of HB1.out⟩
    · have hg0 : 0 < Int.gcd p q := HG0.out
      have HD1 := Hid.mk (HDP.out w1 _ zs HB1.out HZ1.out HZ3.out HZ2.out)
      have HD2 := Hid.mk (fun W hb => HDQ.out W _ zs (bl2 HB1.out hb) (HZ1.out.below hb) HZ3.out HZ2.out)
      have hno := not_one HZ1.out (by rw [HZ2.out]; exact hg0) (by rw [HZ2.out]; exact hG)
      clear hG hg0 HDP HDQ
      rcases hno with hn1 | ⟨pg, zg, rfl, rfl, hzg, -, hcg⟩
      · have hn1' : ((ng : Int) == 1) = false := by simp; omega
        clear hn1
        go_wp2_with fail
        with_reducible refine HD1.out.mono ?_
        rintro e w2 ⟨v1, v2, us, rfl, u1, u2, u3, hb2⟩
        have HU1 := Hid.mk u1
        have HU2 := Hid.mk u2
        have HU3 := Hid.mk u3
        have HB2 := Hid.mk (bl2 HB1.out hb2)
        have HB12 := Hid.mk hb2
        have e5 := cell_kept hb2 e3
        clear u1 u2 u3 hb2 e0 e1 e3 HD1
        go_wp2_with fail
        with_reducible refine (HD2.out _ HB12.out).mono ?_
        rintro e w3 ⟨v3, v4, ts, rfl, t1, t2, t3, hb3⟩
        have HT1 := Hid.mk t1
        have HT2 := Hid.mk t2
        have HT3 := Hid.mk t3
        have HB3 := Hid.mk (bl2 HB2.out hb3)
        have HU1' := Hid.mk (HU1.out.below hb3)
        clear t1 t2 t3 hb3 e5 HD2
        obtain ⟨s1, m1, k1, rfl⟩ := HU1.out.sliceB
        obtain ⟨s3, m3, k3, rfl⟩ := HT1.out.sliceB
        have hK := HB.out.kept HB3.out
        have f1 := hK.cell (i := 1) rfl
        have g1 := hK.free 1
        have hK1 := hK.set 1 (.slice s1 m1 k1)
        have f3 := hK1.cell (i := 3) rfl
        have g3 := hK1.free 3
        have HK := Hid.mk hK
        have HK2 := Hid.mk (hK1.set 3 (.slice s3 m3 k3))
        clear hK hK1
        go_wp2_with fail
        go_ret
        have ht : Tch [g] w3 ((w3.setCell ⟨g, 1, none⟩ (.slice s1 m1 k1)).setCell ⟨g, 3, none⟩ (.slice s3 m3 k3)) := ((Tch.refl [g] w3).setK (by simp) _ _).setK (by simp) _ _
        exact ⟨rfl, ⟨_, us, _, ts, HFIN.out _ _ _ HK2.out, ⟨HU1'.out.tch HK.out (RatV.noW ⟨_, _, _, _, _, _, _, _, rfl⟩) ht, HU3.out, by rw [HU2.out, HZ2.out, HVP.out]; exact (numL_abs p q).symm⟩, HT1.out.tch HK.out (RatV.noW ⟨_, _, _, _, _, _, _, _, rfl⟩) ht, HT3.out, by rw [HT2.out, HZ2.out, HVQ.out]; exact (denL_abs p q).symm⟩, (Tch.of HB3.out).trans ht⟩
      · have hzg' : ((zg : Int) == 1) = false := by simp; omega
        clear hzg
        go_wp2_with fail
        with_reducible refine HD1.out.mono ?_
        rintro e w2 ⟨v1, v2, us, rfl, u1, u2, u3, hb2⟩
        have HU1 := Hid.mk u1
        have HU2 := Hid.mk u2
        have HU3 := Hid.mk u3
        have HB2 := Hid.mk (bl2 HB1.out hb2)
        have HB12 := Hid.mk hb2
        have e5 := cell_kept hb2 e3
        clear u1 u2 u3 hb2 e0 e1 e3 HD1
        go_wp2_with fail
        with_reducible refine (HD2.out _ HB12.out).mono ?_
        rintro e w3 ⟨v3, v4, ts, rfl, t1, t2, t3, hb3⟩
        have HT1 := Hid.mk t1
        have HT2 := Hid.mk t2
        have HT3 := Hid.mk t3
        have HB3 := Hid.mk (bl2 HB2.out hb3)
        have HU1' := Hid.mk (HU1.out.below hb3)
        clear t1 t2 t3 hb3 e5 HD2
        obtain ⟨s1, m1, k1, rfl⟩ := HU1.out.sliceB
        obtain ⟨s3, m3, k3, rfl⟩ := HT1.out.sliceB
        have hK := HB.out.kept HB3.out
        have f1 := hK.cell (i := 1) rfl
        have g1 := hK.free 1
        have hK1 := hK.set 1 (.slice s1 m1 k1)
        have f3 := hK1.cell (i := 3) rfl
        have g3 := hK1.free 3
        have HK := Hid.mk hK
        have HK2 := Hid.mk (hK1.set 3 (.slice s3 m3 k3))
        clear hK hK1
        go_wp2_with fail
        go_ret
        have ht : Tch [g] w3 ((w3.setCell ⟨g, 1, none⟩ (.slice s1 m1 k1)).setCell ⟨g, 3, none⟩ (.slice s3 m3 k3)) := ((Tch.refl [g] w3).setK (by simp) _ _).setK (by simp) _ _
        exact ⟨rfl, ⟨_, us, _, ts, HFIN.out _ _ _ HK2.out, ⟨HU1'.out.tch HK.out (RatV.noW ⟨_, _, _, _, _, _, _, _, rfl⟩) ht, HU3.out, by rw [HU2.out, HZ2.out, HVP.out]; exact (numL_abs p q).symm⟩, HT1.out.tch HK.out (RatV.noW ⟨_, _, _, _, _, _, _, _, rfl⟩) ht, HT3.out, by rw [HT2.out, HZ2.out, HVQ.out]; exact (denL_abs p q).symm⟩, (Tch.of HB3.out).trans ht⟩
theorem norm_pos (g : Nat) (p q : Int) (w : World) (h : RatAt w g p q) (hq : 0 < q) (hp1 : -4611686018427387903 ≤ p) (hp2 : p ≤ 4611686018427387903) (hq2 : q ≤ 4611686018427387903) :
    Calls Tryz.prog 142 #[.pointer (some ⟨g, 0, none⟩)] w fun e w' => e = .returned (.pointer (some ⟨g, 0, none⟩)) ∧ RatAt w' g (numL p q) (denL p q) ∧ Tch [g] w w' := by
  by_cases h0 : p = 0
  · exact norm_0 g p q w h hq hp1 hp2 hq2 h0
  · by_cases h1 : q = 1
    · exact norm_1 g p q w h hq hp1 hp2 hq2 h0 h1
    · exact norm_2 g p q w h hq hp1 hp2 hq2 h0 h1
end Ww
end Go.Proofs.YtjgliinpaadbnaaGreatDoor
namespace Go.Proofs.YtjgliinpaadbnaaGreatDoor
open Go.ChangeShapes Go.WideShapes Go.ChangeAt Go.RowKit Go.Sort
namespace Ww
open Wm
open Bw (Tch bl2 cell_kept)
theorem abs_small {r : Int} (h1 : -4611686018427387903 ≤ r) (h2 : r ≤ 4611686018427387903) {xs : List Nat} (hv : valW xs = r.natAbs) : valW xs < 2 ^ 62 := by omega
set_option maxHeartbeats 8000000 in
set_option maxRecDepth 100000 in
theorem set_z (gz : Nat) (cs : List Value) (T : TypeId) (gx ox : Nat) (r : Int) (w : World) (hx : ZAt w gx ox r) (hB : BlkAt w gz cs T) (hi : IntV cs) (hne : gx ≠ gz) (hr1 : -4611686018427387903 ≤ r) (hr2 : r ≤ 4611686018427387903) :
    Calls Tryz.prog 141 #[.pointer (some ⟨gz, 0, none⟩), .pointer (some ⟨gx, ox, none⟩)] w fun e w' => e = .returned (.pointer (some ⟨gz, 0, none⟩)) ∧ OutZ w w' gz 0 cs T r := by
  obtain ⟨va, xs, h1, h2, h3, h4, h5⟩ := hx
  have hl := len_two h4 (abs_small hr1 hr2 h5)
  have hB' : BlkAt w.drew gz cs T := hB
  have HTW := Hid.mk (twin_any va xs w.drew h3 (by omega))
  obtain ⟨b0, a0, l0, c0, hcs⟩ := hi
  have HGV := Hid.mk (fun v' W (hb : Below w.drew.heap.size w.drew W) (hW : IsW W v' xs) => give_z gz 0 cs T (decide (r < 0)) v' xs r W (hB'.kept hb) (IntV.noW ⟨b0, a0, l0, c0, hcs⟩) ⟨b0, by rw [hcs]; rfl⟩ ⟨a0, l0, c0, by rw [hcs]; rfl⟩ hW h4 h5 (fun _ => rfl))
  obtain ⟨a, l, c, rfl⟩ := h3.sliceB
  have hS0 : w.drew.cell? ⟨gx, ox, none⟩ = some (.bool (decide (r < 0))) ∧ w.drew.cell? ⟨gx, ox + 1, none⟩ = some (.slice a l c) := ⟨h1, h2⟩
  generalize decide (r < 0) = R at *
  have HNE := Hid.mk hne
  clear h3 h4 h5 hl hB hB' hr1 hr2 hcs hne
  go_enter Tryz.func141, Tryz.ntmps141
  go_wp2_with fail
  go_region_held3 (fun w' => w'.cell? ⟨gx, ox, none⟩ = some (.bool R) ∧ w'.cell? ⟨gx, ox + 1, none⟩ = some (.slice a l c)) (first | exact hS0 | exact hS1 | exact hS2) (first
    | (go_at_call 102; with_reducible refine HTW.out.mono ?_; rintro e w1 ⟨v', rfl, hW1, hb1⟩
       have hS1 : w1.cell? ⟨gx, ox, none⟩ = some (.bool R) ∧ w1.cell? ⟨gx, ox + 1, none⟩ = some (.slice a l c) := ⟨cell_kept hb1 hS0.1, cell_kept hb1 hS0.2⟩
       have HG := Hid.mk (HGV.out v' w1 hb1 hW1)
       have HB1 := Hid.mk hb1
       clear hW1 hb1)
    | (go_at_call 97; with_reducible refine HG.out.mono ?_; rintro e w2 ⟨rfl, hO⟩
       have hS2 : w2.cell? ⟨gx, ox, none⟩ = some (.bool R) ∧ w2.cell? ⟨gx, ox + 1, none⟩ = some (.slice a l c) := ⟨cell_tch hS1.1 hO.1 (by simpa using HNE.out), cell_tch hS1.2 hO.1 (by simpa using HNE.out)⟩
       have HO := Hid.mk hO
       clear hO))
  go_wp2_with fail
  go_ret
  exact ⟨rfl, HO.out.pre (bl2 (drBw1 w) HB1.out)⟩
end Ww
end Go.Proofs.YtjgliinpaadbnaaGreatDoor
namespace Go.Proofs.YtjgliinpaadbnaaGreatDoor
open Go.ChangeShapes Go.WideShapes Go.ChangeAt Go.RowKit Go.Sort
namespace Ww
open Wm Sm
open Bw (Tch bl2 cell_kept)
theorem zvB (w : World) : Below w.heap.size w (w.alloc (.cells #[.bool false, .slice none 0 0] 85)) := (Below.refl _ _).alloc (Nat.le_refl _) _
theorem ZAt.lt {w : World} {g o : Nat} {r : Int} (h : ZAt w g o r) : g < w.heap.size := by
  obtain ⟨va, xs, h1, _⟩ := h
  rcases Nat.lt_or_ge g w.heap.size with h' | h'
  · exact h'
  · unfold World.cell? at h1
    rw [Array.getElem?_eq_none h'] at h1
    simp at h1
theorem Tch.size' {gs : List Nat} {w w' : World} (h : Tch gs w w') : w.heap.size ≤ w'.heap.size := h.size
set_option maxHeartbeats 16000000 in
set_option maxRecDepth 100000 in
theorem setFrac_z (g : Nat) (cs : List Value) (ga oa gb ob : Nat) (p q P Q : Int) (w : World) (hB : BlkAt w g cs 87) (hV : RatV cs) (ha : ZAt w ga oa p) (hb : ZAt w gb ob q) (hq : q ≠ 0) (hp1 : -4611686018427387903 ≤ p) (hp2 : p ≤ 4611686018427387903) (hq1 : -4611686018427387903 ≤ q) (hq2 : q ≤ 4611686018427387903)
    (hN : ∀ W, RatAt W g p q → Calls Tryz.prog 142 #[.pointer (some ⟨g, 0, none⟩)] W fun e w' => e = .returned (.pointer (some ⟨g, 0, none⟩)) ∧ RatAt w' g P Q ∧ Tch [g] W w') :
    Calls Tryz.prog 92 #[.pointer (some ⟨g, 0, none⟩), .pointer (some ⟨ga, oa, none⟩), .pointer (some ⟨gb, ob, none⟩)] w fun e w' => e = .returned (.pointer (some ⟨g, 0, none⟩)) ∧ RatAt w' g P Q ∧ Tch [g] w w' := by
  have hal := ha.lt
  have hbl := hb.lt
  have hgl := hB.lt
  have hZ1 := zvB w
  have HS1 := Hid.mk (set_z w.heap.size zvC _ ga oa p _ (ha.kept hZ1) (zv_new w) zv_int (by omega) hp1 hp2)
  have HS2 := Hid.mk (fun W (h : ZAt W gb ob q) (hne : gb ≠ W.heap.size) => set_z W.heap.size zvC _ gb ob q _ (h.kept (zvB W)) (zv_new W) zv_int hne hq1 hq2)
  obtain ⟨vb, ys, b1, b2, b3, b4, b5⟩ := id hb
  obtain ⟨lb, nb, cb, rfl⟩ := b3.sliceB
  have hnb := len_pos b3 (by rw [b5]; omega)
  have hnb' : ((nb : Int) == 0) = false := by simp; omega
  have HB := Hid.mk hB
  have HBB := Hid.mk hb
  have HN := Hid.mk hN
  have HZ1 := Hid.mk hZ1
  have HV := Hid.mk hV
  have HBL := Hid.mk hbl
  have HGL := Hid.mk hgl
  clear b1 b3 b4 b5 hnb hB hV ha hb hq hp1 hp2 hq1 hq2 hN hal hbl hgl hZ1
  go_enter Tryz.func92, Tryz.ntmps92
  go_wp2_with fail
  with_reducible refine HS1.out.mono ?_
  rintro e w2 ⟨rfl, hO1⟩
  have HA1 := Hid.mk (hO1.int zv_int).1
  have HI1 := Hid.mk (hO1.int zv_int).2
  have HT1 := Hid.mk (hO1.below HZ1.out (Nat.le_refl _))
  have hsz0 := hO1.1.size
  have hsz1 : (w.alloc (.cells #[.bool false, .slice none 0 0] 85)).heap.size = w.heap.size + 1 := by simp
  have HSZ := Hid.mk (show w.heap.size < w2.heap.size by omega)
  have HB2 := Hid.mk (HBB.out.kept HT1.out)
  have HNE := Hid.mk (show gb ≠ w2.heap.size by have := HBL.out; have := HSZ.out; omega)
  clear hO1 HS1 b2 hsz0 hsz1
  go_wp2_with fail
  with_reducible refine (HS2.out w2 HB2.out HNE.out).mono ?_
  rintro e w4 ⟨rfl, hO2⟩
  have HA2 := Hid.mk (hO2.int zv_int).1
  have HBL4 := Hid.mk (hO2.below (zvB w2) (Nat.le_refl _))
  have HA3 := Hid.mk (HA1.out.kept HBL4.out)
  have HT4 := Hid.mk (bl2 HT1.out HBL4.out)
  clear hO2 HS2
  obtain ⟨v1, xs1, p1, p2, p3, p4, p5⟩ := HA3.out
  obtain ⟨v2, xs2, q1, q2, q3, q4, q5⟩ := HA2.out
  obtain ⟨s1, m1, k1, rfl⟩ := p3.sliceB
  obtain ⟨s2, m2, k2, rfl⟩ := q3.sliceB
  obtain ⟨r1, r2, r3, r4, r5, r6, r7, r8, rfl⟩ := HV.out
  have hK := HB.out.kept HT4.out
  have c0 := hK.cell (i := 0) rfl
  have f0 := hK.free 0
  have c1 := hK.cell (i := 1) rfl
  have f1 := hK.free 1
  have c2 := hK.cell (i := 2) rfl
  have f2 := hK.free 2
  have c3 := hK.cell (i := 3) rfl
  have f3 := hK.free 3
  have hK4 := (((hK.set 0 (.bool (decide (p < 0)))).set 1 (.slice s1 m1 k1)).set 2 (.bool (decide (q < 0)))).set 3 (.slice s2 m2 k2)
  have hT4 : Tch [g] w4 ((((w4.setCell ⟨g, 0, none⟩ (.bool (decide (p < 0)))).setCell ⟨g, 1, none⟩ (.slice s1 m1 k1)).setCell ⟨g, 2, none⟩ (.bool (decide (q < 0)))).setCell ⟨g, 3, none⟩ (.slice s2 m2 k2)) := ((((Tch.refl [g] w4).setK (by simp) _ _).setK (by simp) _ _).setK (by simp) _ _).setK (by simp) _ _
  have hnq : w2.heap.size ≠ g := by have := HGL.out; have := HSZ.out; omega
  have hnq' : g ≠ w2.heap.size := fun e => hnq e.symm
  have hRat : RatAt ((((w4.setCell ⟨g, 0, none⟩ (.bool (decide (p < 0)))).setCell ⟨g, 1, none⟩ (.slice s1 m1 k1)).setCell ⟨g, 2, none⟩ (.bool (decide (q < 0)))).setCell ⟨g, 3, none⟩ (.slice s2 m2 k2)) g p q := ⟨_, xs1, _, xs2, hK4, ⟨p3.tch hK (RatV.noW ⟨_, _, _, _, _, _, _, _, rfl⟩) hT4, p4, p5⟩, q3.tch hK (RatV.noW ⟨_, _, _, _, _, _, _, _, rfl⟩) hT4, q4, q5⟩
  have HNN := Hid.mk (HN.out _ hRat)
  have HT9 := Hid.mk ((Tch.of HT4.out).trans hT4)
  clear hK hK4 hRat hT4 p3 p4 p5 q3 q4 q5
  go_wp2_with fail
  with_reducible refine HNN.out.mono ?_
  rintro e w9 ⟨rfl, hR9, ht9⟩
  have HR9 := Hid.mk hR9
  have HT := Hid.mk (HT9.out.trans ht9)
  clear hR9 ht9
  go_wp2_with fail
  go_ret
  exact ⟨rfl, HR9.out, HT.out⟩
end Ww
end Go.Proofs.YtjgliinpaadbnaaGreatDoor
namespace Go.Proofs.YtjgliinpaadbnaaGreatDoor
open Go.ChangeShapes Go.WideShapes Go.ChangeAt Go.RowKit Go.Sort
namespace Ww
open Wm Sm
open Bw (Tch bl2 cell_kept)
theorem setFrac_pos (g : Nat) (cs : List Value) (ga oa gb ob : Nat) (p q : Int) (w : World) (hB : BlkAt w g cs 87) (hV : RatV cs) (ha : ZAt w ga oa p) (hb : ZAt w gb ob q) (hq : 0 < q) (hp1 : -4611686018427387903 ≤ p) (hp2 : p ≤ 4611686018427387903) (hq2 : q ≤ 4611686018427387903) :
    Calls Tryz.prog 92 #[.pointer (some ⟨g, 0, none⟩), .pointer (some ⟨ga, oa, none⟩), .pointer (some ⟨gb, ob, none⟩)] w fun e w' => e = .returned (.pointer (some ⟨g, 0, none⟩)) ∧ RatAt w' g (numL p q) (denL p q) ∧ Tch [g] w w' :=
  setFrac_z g cs ga oa gb ob p q _ _ w hB hV ha hb (by omega) hp1 hp2 (by omega) hq2 (fun W h => norm_pos g p q W h hq hp1 hp2 hq2)
set_option maxHeartbeats 8000000 in
set_option maxRecDepth 100000 in
theorem setFrac64_z (g : Nat) (cs : List Value) (p q : Int) (w : World) (hB : BlkAt w g cs 87) (hV : RatV cs) (hq : 0 < q) (hp1 : -4611686018427387903 ≤ p) (hp2 : p ≤ 4611686018427387903) (hq2 : q ≤ 4611686018427387903) :
    Calls Tryz.prog 47 #[.pointer (some ⟨g, 0, none⟩), .int .i64 p, .int .i64 q] w fun e w' => e = .returned (.pointer (some ⟨g, 0, none⟩)) ∧ RatAt w' g (numL p q) (denL p q) ∧ Tch [g] w w' := by
  have HN1 := Hid.mk (newInt_z p w hp1 hp2)
  have HN2 := Hid.mk (fun W => newInt_z q W (by omega) hq2)
  have HS := Hid.mk (fun ga gb W h1 h2 h3 => setFrac_pos g cs ga 0 gb 0 p q W h1 hV h2 h3 hq hp1 hp2 hq2)
  have HB := Hid.mk hB
  clear hB hV hq hp1 hp2 hq2
  go_enter Tryz.func47, Tryz.ntmps47
  go_wp2_with fail
  with_reducible refine HN1.out.mono ?_
  rintro e w1 ⟨rfl, hz1, -, hb1⟩
  have HZ1 := Hid.mk hz1
  have HB1 := Hid.mk hb1
  clear hz1 hb1
  go_wp2_with fail
  with_reducible refine (HN2.out _).mono ?_
  rintro e w2 ⟨rfl, hz2, -, hb2⟩
  have HC := Hid.mk (HS.out w.heap.size w1.heap.size w2 (HB.out.kept (bl2 HB1.out hb2)) (HZ1.out.kept hb2) hz2)
  have HB2 := Hid.mk (bl2 HB1.out hb2)
  clear hz2 hb2 HS
  go_wp2_with fail
  with_reducible refine HC.out.mono ?_
  rintro e w3 ⟨rfl, hR, ht⟩
  have HR := Hid.mk hR
  have HT := Hid.mk ((Tch.of HB2.out).trans ht)
  clear hR ht
  go_wp2_with fail
  go_ret
  exact ⟨rfl, HR.out, HT.out⟩
end Ww
end Go.Proofs.YtjgliinpaadbnaaGreatDoor
namespace Go.Proofs.YtjgliinpaadbnaaGreatDoor
open Go.ChangeShapes Go.WideShapes Go.ChangeAt Go.RowKit
namespace Ww
open Wm
set_option maxHeartbeats 8000000 in
theorem add_any (va vb : Value) (xs ys : List Nat) (w : World) (ha : IsW w va xs) (hb : IsW w vb ys) (hla : xs.length ≤ 10000) (hlb : ys.length ≤ 10000) :
    Calls Tryz.prog 99 #[va, vb] w fun e w' => ∃ v' rs, e = .returned v' ∧ IsW w' v' rs ∧ valW rs = valW xs + valW ys ∧ trimW rs ∧ rs.length ≤ max xs.length ys.length + 1 ∧ Below w.heap.size w w' := by
  obtain ⟨a, ca, rfl, hca, hma, hna, hcea, hoa⟩ := ha
  obtain ⟨b, cb, rfl, hcb, hmb, hnb, hceb, hob⟩ := hb
  have HCA := Hid.mk hcea
  have HCB := Hid.mk hceb
  have HNA := Hid.mk hna
  have HNB := Hid.mk hnb
  have HOA := Hid.mk hoa
  have HOB := Hid.mk hob
  obtain ⟨nA, hnA⟩ : ∃ n, n = xs.length := ⟨_, rfl⟩
  obtain ⟨nB, hnB⟩ : ∃ n, n = ys.length := ⟨_, rfl⟩
  rw [← hnA] at hla ⊢
  rw [← hnB] at hlb ⊢
  have HLA := Hid.mk hnA
  have HLB := Hid.mk hnB
  obtain ⟨i0, hi, hz0, hz1, hz2⟩ := info_parts info_u32
  clear hcea hceb hna hnb hoa hob hnA hnB hca hcb hma hmb
  go_enter Tryz.func99, Tryz.ntmps99
  by_cases hs : nA < nB
  · go_wp2_with (at_make; refine wpList_make_full _ rfl (.tmp 17) (.tmp 17) 83 rfl w.heap.size 142 i0 (.int .u32 0) 1 Tryz.underlying83 hi hz0 hz1 .i64 .i64 _ _ (nB + 1) rfl rfl (by omega) (by omega) (by rw [hz2]; omega) (by unfold maxLen; omega) (Nat.le_refl _) ?_; intro w2 hown hgrow)
    have hown0 : w2.ownsRow w.heap.size 142 1 (.slice (some ⟨w.heap.size, 0, none⟩) (nB + 1) (nB + 1)) (nB + 1) (cellsW ([] ++ List.replicate (nB + 1 - 0) 0)) := by
      rw [cellsW_rep, ← toList_madeCells_one]
      rw [Nat.mul_one] at hown
      exact hown
    have hb2 : Below w.heap.size w w2 := Below.grown (Below.refl _ _) hgrow (Nat.le_refl _) (fun q hq => by cases hq)
    clear hown hgrow hi hz0 hz1 hz2
    go_wp2_with fail
    go_loopw [6, 7] (fun c i wr => ∃ (k cc : Nat) (zs : List Nat), k ≤ nB ∧ i = .int .i64 k ∧ c = .int .u64 cc ∧ cc ≤ 1 ∧ zs.length = k ∧ okW zs ∧ valW zs + 2 ^ (32 * k) * cc = valW (ys.take k) + valW (xs.take k) ∧
        wr.ownsRow w.heap.size 142 1 (.slice (some ⟨w.heap.size, 0, none⟩) (nB + 1) (nB + 1)) (nB + 1) (cellsW (zs ++ List.replicate (nB + 1 - k) 0)) ∧ Below w.heap.size w wr) (fun _ i _ => nB - (intOf i).toNat)
    case atStart => exact ⟨0, 0, [], Nat.zero_le _, rfl, rfl, by omega, rfl, (fun x hx => by cases hx), by simp [valW], hown0, hb2⟩
    case round =>
      clear hown0 hb2
      obtain ⟨k, cc, zs, hk, rfl, rfl, hcc, hzl, hzo, hval, hown, hbel⟩ := hrel
      have HZL := Hid.mk hzl
      have HZO := Hid.mk hzo
      have HV := Hid.mk hval
      clear hzl hzo hval
      by_cases hlt : k < nB
      · cases b with
        | none => exact absurd (HNB.out rfl) (by have := HLB.out; omega)
        | some p =>
          have hcx := Bw.cell_kept hbel (HCB.out p rfl k (by have := HLB.out; omega))
          have hxk := okW_getD HOB.out k
          obtain ⟨xk, hxE⟩ : ∃ xk, xk = ys.getD k 0 := ⟨_, rfl⟩
          rw [← hxE] at hcx hxk
          have HXE := Hid.mk hxE
          clear hxE
          have hxk' : (xk : Int) ≤ 4294967295 := by omega
          have hlt' : (k : Int) < (nB : Int) := by omega
          have hcc' : (cc : Int) ≤ 1 := by omega
          have hc3 := hown.cellAt k (by omega)
          have hf3 := hown.frozenAt k
          rw [cellsW_at zs (nB + 1) k HZL.out (by omega)] at hc3
          by_cases hly : k < nA
          · cases a with
            | none => exact absurd (HNA.out rfl) (by have := HLA.out; omega)
            | some q =>
              have hcy := Bw.cell_kept hbel (HCA.out q rfl k (by have := HLA.out; omega))
              have hyk := okW_getD HOA.out k
              obtain ⟨yk, hyE⟩ : ∃ yk, yk = xs.getD k 0 := ⟨_, rfl⟩
              rw [← hyE] at hcy hyk
              have HYE := Hid.mk hyE
              clear hyE
              have hyk' : (yk : Int) ≤ 4294967295 := by omega
              have hly' : (k : Int) < (nA : Int) := by omega
              have hst := hown.stored k (.int .u32 (((cc : Int) + xk + yk) % 4294967296))
              rw [show ((cc : Int) + xk + yk) % 4294967296 = (((cc + xk + yk) % 4294967296 : Nat) : Int) by omega, cellsW_set zs (nB + 1) k _ HZL.out (by omega), show (((cc + xk + yk) % 4294967296 : Nat) : Int) = ((cc : Int) + xk + yk) % 4294967296 by omega] at hst
              have HST := Hid.mk hst
              clear hst hown
              go_wp2_with fail
              go_roundw
              case rel => exact ⟨k + 1, (cc + xk + yk) / 4294967296, zs ++ [(cc + xk + yk) % 4294967296], by omega, by go_num, by go_num, by omega, (by rw [List.length_append, HZL.out]; rfl), okW_append HZO.out (okW_one (by omega)), add_step HV.out HZL.out HXE.out HYE.out (by have := HLB.out; omega) (by have := HLA.out; omega), HST.out.1, hbel.grown HST.out.2 hbel.size (fun q hq => by cases hq; exact Nat.le_refl _)⟩
              case measure => simp [intOf]; omega
          · have hly' : (nA : Int) ≤ (k : Int) := by omega
            have hst := hown.stored k (.int .u32 (((cc : Int) + xk) % 4294967296))
            rw [show ((cc : Int) + xk) % 4294967296 = (((cc + xk) % 4294967296 : Nat) : Int) by omega, cellsW_set zs (nB + 1) k _ HZL.out (by omega), show (((cc + xk) % 4294967296 : Nat) : Int) = ((cc : Int) + xk) % 4294967296 by omega] at hst
            have HST := Hid.mk hst
            clear hst hown
            go_wp2_with fail
            go_roundw
            case rel => exact ⟨k + 1, (cc + xk) / 4294967296, zs ++ [(cc + xk) % 4294967296], by omega, by go_num, by go_num, by omega, (by rw [List.length_append, HZL.out]; rfl), okW_append HZO.out (okW_one (by omega)), add_step1 HV.out HZL.out HXE.out (by have := HLB.out; omega) (by have := HLA.out; omega), HST.out.1, hbel.grown HST.out.2 hbel.size (fun q hq => by cases hq; exact Nat.le_refl _)⟩
            case measure => simp [intOf]; omega
      · have e : k = nB := by omega
        subst e
        have hcc' : (cc : Int) ≤ 1 := by omega
        have hc3 := hown.cellAt k (by omega)
        have hf3 := hown.frozenAt k
        rw [cellsW_at zs (k + 1) k HZL.out (by omega)] at hc3
        have hst := hown.stored k (.int .u32 (cc : Int))
        rw [cellsW_set zs (k + 1) k _ HZL.out (by omega), Nat.sub_self, List.replicate_zero, List.append_nil] at hst
        have HST := Hid.mk hst
        clear hst hown
        go_wp2_with fail
        refine (trim_any _ (zs ++ [cc]) _ (isW_own HST.out.1 (by rw [List.length_append, HZL.out]; rfl) (by unfold maxLen; omega) (okW_append HZO.out (okW_one (by omega)))) (by rw [List.length_append, HZL.out]; simp; omega)).mono ?_
        rintro e w3 ⟨v', rs, rfl, hr1, hr2, hr3, hr4, rfl⟩
        have hb3 := hbel.grown HST.out.2 hbel.size (fun q hq => by cases hq; exact Nat.le_refl _)
        have hvv : valW rs = valW xs + valW ys := by
          have hv := HV.out
          have hX := HLB.out
          have hY := HLA.out
          rw [List.take_of_length_le (by omega), List.take_of_length_le (by omega)] at hv
          rw [hr2, valW_snoc, HZL.out, hv]; omega
        have HVV := Hid.mk hvv
        clear hvv HST hr2
        go_wp2_with fail
        go_ret
        exact ⟨_, rs, rfl, hr1, HVV.out, hr3, by rw [List.length_append, HZL.out] at hr4; simp at hr4; omega, hb3⟩
  · go_wp2_with (at_make; refine wpList_make_full _ rfl (.tmp 17) (.tmp 17) 83 rfl w.heap.size 142 i0 (.int .u32 0) 1 Tryz.underlying83 hi hz0 hz1 .i64 .i64 _ _ (nA + 1) rfl rfl (by omega) (by omega) (by rw [hz2]; omega) (by unfold maxLen; omega) (Nat.le_refl _) ?_; intro w2 hown hgrow)
    have hown0 : w2.ownsRow w.heap.size 142 1 (.slice (some ⟨w.heap.size, 0, none⟩) (nA + 1) (nA + 1)) (nA + 1) (cellsW ([] ++ List.replicate (nA + 1 - 0) 0)) := by
      rw [cellsW_rep, ← toList_madeCells_one]
      rw [Nat.mul_one] at hown
      exact hown
    have hb2 : Below w.heap.size w w2 := Below.grown (Below.refl _ _) hgrow (Nat.le_refl _) (fun q hq => by cases hq)
    clear hown hgrow hi hz0 hz1 hz2
    go_wp2_with fail
    go_loopw [6, 7] (fun c i wr => ∃ (k cc : Nat) (zs : List Nat), k ≤ nA ∧ i = .int .i64 k ∧ c = .int .u64 cc ∧ cc ≤ 1 ∧ zs.length = k ∧ okW zs ∧ valW zs + 2 ^ (32 * k) * cc = valW (xs.take k) + valW (ys.take k) ∧
        wr.ownsRow w.heap.size 142 1 (.slice (some ⟨w.heap.size, 0, none⟩) (nA + 1) (nA + 1)) (nA + 1) (cellsW (zs ++ List.replicate (nA + 1 - k) 0)) ∧ Below w.heap.size w wr) (fun _ i _ => nA - (intOf i).toNat)
    case atStart => exact ⟨0, 0, [], Nat.zero_le _, rfl, rfl, by omega, rfl, (fun x hx => by cases hx), by simp [valW], hown0, hb2⟩
    case round =>
      clear hown0 hb2
      obtain ⟨k, cc, zs, hk, rfl, rfl, hcc, hzl, hzo, hval, hown, hbel⟩ := hrel
      have HZL := Hid.mk hzl
      have HZO := Hid.mk hzo
      have HV := Hid.mk hval
      clear hzl hzo hval
      by_cases hlt : k < nA
      · cases a with
        | none => exact absurd (HNA.out rfl) (by have := HLA.out; omega)
        | some p =>
          have hcx := Bw.cell_kept hbel (HCA.out p rfl k (by have := HLA.out; omega))
          have hxk := okW_getD HOA.out k
          obtain ⟨xk, hxE⟩ : ∃ xk, xk = xs.getD k 0 := ⟨_, rfl⟩
          rw [← hxE] at hcx hxk
          have HXE := Hid.mk hxE
          clear hxE
          have hxk' : (xk : Int) ≤ 4294967295 := by omega
          have hlt' : (k : Int) < (nA : Int) := by omega
          have hcc' : (cc : Int) ≤ 1 := by omega
          have hc3 := hown.cellAt k (by omega)
          have hf3 := hown.frozenAt k
          rw [cellsW_at zs (nA + 1) k HZL.out (by omega)] at hc3
          by_cases hly : k < nB
          · cases b with
            | none => exact absurd (HNB.out rfl) (by have := HLB.out; omega)
            | some q =>
              have hcy := Bw.cell_kept hbel (HCB.out q rfl k (by have := HLB.out; omega))
              have hyk := okW_getD HOB.out k
              obtain ⟨yk, hyE⟩ : ∃ yk, yk = ys.getD k 0 := ⟨_, rfl⟩
              rw [← hyE] at hcy hyk
              have HYE := Hid.mk hyE
              clear hyE
              have hyk' : (yk : Int) ≤ 4294967295 := by omega
              have hly' : (k : Int) < (nB : Int) := by omega
              have hst := hown.stored k (.int .u32 (((cc : Int) + xk + yk) % 4294967296))
              rw [show ((cc : Int) + xk + yk) % 4294967296 = (((cc + xk + yk) % 4294967296 : Nat) : Int) by omega, cellsW_set zs (nA + 1) k _ HZL.out (by omega), show (((cc + xk + yk) % 4294967296 : Nat) : Int) = ((cc : Int) + xk + yk) % 4294967296 by omega] at hst
              have HST := Hid.mk hst
              clear hst hown
              go_wp2_with fail
              go_roundw
              case rel => exact ⟨k + 1, (cc + xk + yk) / 4294967296, zs ++ [(cc + xk + yk) % 4294967296], by omega, by go_num, by go_num, by omega, (by rw [List.length_append, HZL.out]; rfl), okW_append HZO.out (okW_one (by omega)), add_step HV.out HZL.out HXE.out HYE.out (by have := HLA.out; omega) (by have := HLB.out; omega), HST.out.1, hbel.grown HST.out.2 hbel.size (fun q hq => by cases hq; exact Nat.le_refl _)⟩
              case measure => simp [intOf]; omega
          · have hly' : (nB : Int) ≤ (k : Int) := by omega
            have hst := hown.stored k (.int .u32 (((cc : Int) + xk) % 4294967296))
            rw [show ((cc : Int) + xk) % 4294967296 = (((cc + xk) % 4294967296 : Nat) : Int) by omega, cellsW_set zs (nA + 1) k _ HZL.out (by omega), show (((cc + xk) % 4294967296 : Nat) : Int) = ((cc : Int) + xk) % 4294967296 by omega] at hst
            have HST := Hid.mk hst
            clear hst hown
            go_wp2_with fail
            go_roundw
            case rel => exact ⟨k + 1, (cc + xk) / 4294967296, zs ++ [(cc + xk) % 4294967296], by omega, by go_num, by go_num, by omega, (by rw [List.length_append, HZL.out]; rfl), okW_append HZO.out (okW_one (by omega)), add_step1 HV.out HZL.out HXE.out (by have := HLA.out; omega) (by have := HLB.out; omega), HST.out.1, hbel.grown HST.out.2 hbel.size (fun q hq => by cases hq; exact Nat.le_refl _)⟩
            case measure => simp [intOf]; omega
      · have e : k = nA := by omega
        subst e
        have hcc' : (cc : Int) ≤ 1 := by omega
        have hc3 := hown.cellAt k (by omega)
        have hf3 := hown.frozenAt k
        rw [cellsW_at zs (k + 1) k HZL.out (by omega)] at hc3
        have hst := hown.stored k (.int .u32 (cc : Int))
        rw [cellsW_set zs (k + 1) k _ HZL.out (by omega), Nat.sub_self, List.replicate_zero, List.append_nil] at hst
        have HST := Hid.mk hst
        clear hst hown
        go_wp2_with fail
        refine (trim_any _ (zs ++ [cc]) _ (isW_own HST.out.1 (by rw [List.length_append, HZL.out]; rfl) (by unfold maxLen; omega) (okW_append HZO.out (okW_one (by omega)))) (by rw [List.length_append, HZL.out]; simp; omega)).mono ?_
        rintro e w3 ⟨v', rs, rfl, hr1, hr2, hr3, hr4, rfl⟩
        have hb3 := hbel.grown HST.out.2 hbel.size (fun q hq => by cases hq; exact Nat.le_refl _)
        have hvv : valW rs = valW xs + valW ys := by
          have hv := HV.out
          have hX := HLA.out
          have hY := HLB.out
          rw [List.take_of_length_le (by omega), List.take_of_length_le (by omega)] at hv
          rw [hr2, valW_snoc, HZL.out, hv]
        have HVV := Hid.mk hvv
        clear hvv HST hr2
        go_wp2_with fail
        go_ret
        exact ⟨_, rs, rfl, hr1, HVV.out, hr3, by rw [List.length_append, HZL.out] at hr4; simp at hr4; omega, hb3⟩
end Ww
end Go.Proofs.YtjgliinpaadbnaaGreatDoor
namespace Go.Proofs.YtjgliinpaadbnaaGreatDoor
open Go.ChangeShapes Go.WideShapes Go.ChangeAt Go.RowKit
namespace Ww
open Wm

theorem valW_set (rs : List Nat) : ∀ (p v : Nat), p < rs.length → valW (rs.set p v) + 2 ^ (32 * p) * rs.getD p 0 = valW rs + 2 ^ (32 * p) * v := by
  induction rs with
  | nil => intro p v h; simp at h
  | cons x rs ih =>
    intro p v h
    cases p with
    | zero => simp [valW]; omega
    | succ p =>
      have := ih p v (by simpa using h)
      rw [List.set_cons_succ, valW, valW, pow32]
      have e : (x :: rs).getD (p + 1) 0 = rs.getD p 0 := by simp [List.getD]
      rw [e, Nat.mul_comm (2 ^ (32 * p)) 4294967296, Nat.mul_assoc, Nat.mul_assoc]
      have h2 : 4294967296 * (valW (rs.set p v) + 2 ^ (32 * p) * rs.getD p 0) = 4294967296 * (valW rs + 2 ^ (32 * p) * v) := by rw [this]
      rw [Nat.mul_add, Nat.mul_add] at h2
      omega
theorem okW_set {rs : List Nat} (h : okW rs) (p v : Nat) (hv : v < 4294967296) : okW (rs.set p v) := by
  intro x hx
  rcases List.mem_or_eq_of_mem_set hx with h1 | h1
  · exact h x h1
  · omega
theorem cellsW_setAt (rs : List Nat) (p v : Nat) : (cellsW rs).set p (.int .u32 (v : Int)) = cellsW (rs.set p v) := by
  unfold cellsW; rw [List.map_set]
theorem cellsW_get (rs : List Nat) (p : Nat) (h : p < rs.length) : (cellsW rs)[p]? = some (.int .u32 (rs.getD p 0)) := by
  unfold cellsW; simp [List.getD, h]
theorem set_zero {rs : List Nat} {k q v : Nat} (hz : ∀ p, q ≤ p → rs.getD p 0 = 0) (hk : k < q) : ∀ p, q ≤ p → (rs.set k v).getD p 0 = 0 := by
  intro p hp
  have := hz p hp
  simp only [List.getD, List.getElem?_set] at this ⊢
  rw [if_neg (by omega)]; exact this
theorem valW_zeros (n : Nat) : valW (List.replicate n 0) = 0 := by
  induction n with
  | zero => rfl
  | succ n ih => rw [List.replicate_succ, valW, ih]
theorem mul_step {rs ys : List Nat} {k j cc xk yk A : Nat} (hv : valW rs + 2 ^ (32 * (k + j)) * cc = A + 2 ^ (32 * k) * (xk * valW (ys.take j))) (hy : yk = ys.getD j 0) (hj : j < ys.length) (hp : k + j < rs.length) :
    valW (rs.set (k + j) ((cc + (xk * yk + rs.getD (k + j) 0)) % 4294967296)) + 2 ^ (32 * (k + (j + 1))) * ((cc + (xk * yk + rs.getD (k + j) 0)) / 4294967296) = A + 2 ^ (32 * k) * (xk * valW (ys.take (j + 1))) := by
  have h1 := valW_set rs (k + j) ((cc + (xk * yk + rs.getD (k + j) 0)) % 4294967296) hp
  have e1 : 2 ^ (32 * (k + (j + 1))) = 2 ^ (32 * (k + j)) * 4294967296 := by rw [← Nat.add_assoc, pow32]
  have e2 : 2 ^ (32 * k) * (xk * valW (ys.take (j + 1))) = 2 ^ (32 * k) * (xk * valW (ys.take j)) + 2 ^ (32 * (k + j)) * (xk * yk) := by
    rw [take_snocN ys j hj, valW_snoc, List.length_take, Nat.min_eq_left (by omega), ← hy, Nat.mul_add, Nat.mul_add, Nat.mul_left_comm xk (2 ^ (32 * j)) yk, ← Nat.mul_assoc (2 ^ (32 * k)) (2 ^ (32 * j)), ← Nat.pow_add, ← Nat.mul_add 32]
  rw [e1, e2]
  generalize rs.getD (k + j) 0 = o at *
  generalize valW (rs.set (k + j) ((cc + (xk * yk + o)) % 4294967296)) = S at *
  generalize 2 ^ (32 * (k + j)) = P at *
  generalize 2 ^ (32 * k) * (xk * valW (ys.take j)) = Q at *
  have h2 := carry_step (valW rs) P (cc + (xk * yk + o))
  have e3 : P * (cc + (xk * yk + o)) = P * cc + P * (xk * yk) + P * o := by
    rw [Nat.mul_add, Nat.mul_add, Nat.add_assoc]
  rw [e3] at h2
  generalize P * 4294967296 * ((cc + (xk * yk + o)) / 4294967296) = R1 at *
  generalize P * ((cc + (xk * yk + o)) % 4294967296) = R2 at *
  generalize P * (xk * yk) = R3 at *
  generalize P * cc = R4 at *
  generalize P * o = R5 at *
  omega
theorem mul_end {rs xs ys : List Nat} {k q cc xk : Nat} (hv : valW rs + 2 ^ (32 * (k + q)) * cc = valW (xs.take k) * valW ys + 2 ^ (32 * k) * (xk * valW (ys.take q))) (hq : q = ys.length) (hx : xk = xs.getD k 0) (hk : k < xs.length) (hp : k + q < rs.length) (hz : rs.getD (k + q) 0 = 0) :
    valW (rs.set (k + q) cc) = valW (xs.take (k + 1)) * valW ys := by
  have h1 := valW_set rs (k + q) cc hp
  rw [hz, Nat.mul_zero, Nat.add_zero] at h1
  have e : ys.take q = ys := List.take_of_length_le (by omega)
  rw [h1, hv, e, take_snocN xs k hk, valW_snoc, List.length_take, Nat.min_eq_left (by omega), ← hx, Nat.add_mul, Nat.mul_assoc]

set_option maxHeartbeats 1000000 in
theorem mul_nil (va vb : Value) (xs ys : List Nat) (w : World) (ha : IsW w va xs) (hb : IsW w vb ys) (h : xs.length = 0 ∨ ys.length = 0) (hl : ys.length ≤ 10000) :
    Calls Tryz.prog 144 #[va, vb] w fun e w' => e = .returned (.slice none 0 0) ∧ w' = w := by
  obtain ⟨a, ca, rfl, -, -, -, -, -⟩ := ha
  obtain ⟨b, cb, rfl, -, -, -, -, -⟩ := hb
  generalize xs.length = n at *
  generalize ys.length = m at *
  by_cases h0 : n = 0
  · subst h0
    go_enter Tryz.func144, Tryz.ntmps144
    go_wp2_with fail
    go_ret
    exact ⟨rfl, rfl⟩
  · have hm : m = 0 := by omega
    subst hm
    have h0' : ((n : Int) == 0) = false := by simp; omega
    clear h
    go_enter Tryz.func144, Tryz.ntmps144
    go_wp2_with fail
    go_ret
    exact ⟨rfl, rfl⟩

set_option maxHeartbeats 8000000 in
theorem mul_pos (va vb : Value) (xs ys : List Nat) (w : World) (ha : IsW w va xs) (hb : IsW w vb ys) (hla : xs.length ≤ 10000) (hlb : ys.length ≤ 10000) (h0 : 0 < xs.length) (h1 : 0 < ys.length) :
    Calls Tryz.prog 144 #[va, vb] w fun e w' => ∃ v' rs, e = .returned v' ∧ IsW w' v' rs ∧ valW rs = valW xs * valW ys ∧ trimW rs ∧ rs.length ≤ xs.length + ys.length ∧ Below w.heap.size w w' := by
  obtain ⟨a, ca, rfl, hca, hma, hna, hcea, hoa⟩ := ha
  obtain ⟨b, cb, rfl, hcb, hmb, hnb, hceb, hob⟩ := hb
  have HCA := Hid.mk hcea
  have HCB := Hid.mk hceb
  have HNA := Hid.mk hna
  have HNB := Hid.mk hnb
  have HOA := Hid.mk hoa
  have HOB := Hid.mk hob
  obtain ⟨nA, hnA⟩ : ∃ n, n = xs.length := ⟨_, rfl⟩
  obtain ⟨nB, hnB⟩ : ∃ n, n = ys.length := ⟨_, rfl⟩
  rw [← hnA] at hla h0 ⊢
  rw [← hnB] at hlb h1 ⊢
  have HLA := Hid.mk hnA
  have HLB := Hid.mk hnB
  have g0 : ((nA : Int) == 0) = false := by simp; omega
  have g1 : ((nB : Int) == 0) = false := by simp; omega
  obtain ⟨i0, hi, hz0, hz1, hz2⟩ := info_parts info_u32
  clear hcea hceb hna hnb hoa hob hnA hnB hca hcb hma hmb
  go_enter Tryz.func144, Tryz.ntmps144
  go_wp2_with (at_make; refine wpList_make_full _ rfl (.tmp 21) (.tmp 21) 83 rfl w.heap.size 142 i0 (.int .u32 0) 1 Tryz.underlying83 hi hz0 hz1 .i64 .i64 _ _ (nA + nB) rfl rfl (by omega) (by omega) (by rw [hz2]; omega) (by unfold maxLen; omega) (Nat.le_refl _) ?_; intro w2 hown hgrow)
  have hown0 : w2.ownsRow w.heap.size 142 1 (.slice (some ⟨w.heap.size, 0, none⟩) (nA + nB) (nA + nB)) (nA + nB) (cellsW (List.replicate (nA + nB) 0)) := by
    have := cellsW_rep (nA + nB)
    rw [List.nil_append, Nat.sub_zero] at this
    rw [this, ← toList_madeCells_one]
    rw [Nat.mul_one] at hown
    exact hown
  have hb2 : Below w.heap.size w w2 := Below.grown (Below.refl _ _) hgrow (Nat.le_refl _) (fun q hq => by cases hq)
  clear hown hgrow hi hz0 hz1 hz2 g0 g1
  go_wp2_with fail
  go_loopw [6] (fun i wr => ∃ (k : Nat) (rs : List Nat), k ≤ nA ∧ i = .int .i64 k ∧ rs.length = nA + nB ∧ okW rs ∧ (∀ p, k + nB ≤ p → rs.getD p 0 = 0) ∧ valW rs = valW (xs.take k) * valW ys ∧
      wr.ownsRow w.heap.size 142 1 (.slice (some ⟨w.heap.size, 0, none⟩) (nA + nB) (nA + nB)) (nA + nB) (cellsW rs) ∧ Below w.heap.size w wr) (fun i _ => nA - (intOf i).toNat)
  case atStart => exact ⟨0, List.replicate (nA + nB) 0, Nat.zero_le _, rfl, by simp, (fun x hx => by rw [List.eq_of_mem_replicate hx]; omega), (fun p _ => by simp [List.getD, List.getElem?_replicate]; split <;> rfl), by rw [valW_zeros]; simp [valW], hown0, hb2⟩
  case round =>
    clear hown0 hb2
    obtain ⟨k, rs, hk, rfl, hrl, hro, hrz, hrv, hown, hbel⟩ := hrel
    have HRL := Hid.mk hrl
    have HRO := Hid.mk hro
    have HRZ := Hid.mk hrz
    have HRV := Hid.mk hrv
    clear hrl hro hrz hrv
    by_cases hlt : k < nA
    · cases a with
      | none => exact absurd (HNA.out rfl) (by have := HLA.out; omega)
      | some p =>
        cases b with
        | none => exact absurd (HNB.out rfl) (by have := HLB.out; omega)
        | some q =>
          have hxk := okW_getD HOA.out k
          obtain ⟨xk, hxE⟩ : ∃ xk, xk = xs.getD k 0 := ⟨_, rfl⟩
          rw [← hxE] at hxk
          have HXE := Hid.mk hxE
          have hlt' : (k : Int) < (nA : Int) := by omega
          clear hxE
          go_wp2_with fail
          go_loopw [7, 8] (fun c j wq => ∃ (jj cc : Nat) (rq : List Nat), jj ≤ nB ∧ j = .int .i64 jj ∧ c = .int .u64 cc ∧ cc < 4294967296 ∧ rq.length = nA + nB ∧ okW rq ∧ (∀ p, k + nB ≤ p → rq.getD p 0 = 0) ∧
              valW rq + 2 ^ (32 * (k + jj)) * cc = valW (xs.take k) * valW ys + 2 ^ (32 * k) * (xk * valW (ys.take jj)) ∧
              wq.ownsRow w.heap.size 142 1 (.slice (some ⟨w.heap.size, 0, none⟩) (nA + nB) (nA + nB)) (nA + nB) (cellsW rq) ∧ Below w.heap.size w wq) (fun _ j _ => nB - (intOf j).toNat)
          case atStart => exact ⟨0, 0, rs, Nat.zero_le _, rfl, rfl, by omega, HRL.out, HRO.out, HRZ.out, by rw [HRV.out]; simp [valW], hown, hbel⟩
          case round =>
            clear hown hbel HRL HRO HRZ HRV
            obtain ⟨j, cc, rq, hj, rfl, rfl, hcc, hrl, hro, hrz, hrv, hown, hbel⟩ := hrel
            have HRL := Hid.mk hrl
            have HRO := Hid.mk hro
            have HRZ := Hid.mk hrz
            have HRV := Hid.mk hrv
            clear hrl hro hrz hrv
            by_cases hjl : j < nB
            · have hcx := Bw.cell_kept hbel (HCA.out p rfl k (by have := HLA.out; omega))
              have hcy := Bw.cell_kept hbel (HCB.out q rfl j (by have := HLB.out; omega))
              rw [← HXE.out] at hcx
              have hyk := okW_getD HOB.out j
              obtain ⟨yk, hyE⟩ : ∃ yk, yk = ys.getD j 0 := ⟨_, rfl⟩
              rw [← hyE] at hcy hyk
              have HYE := Hid.mk hyE
              have hc3 := hown.cellAt (k + j) (by omega)
              have hf3 := hown.frozenAt (k + j)
              rw [cellsW_get rq (k + j) (by have := HRL.out; omega)] at hc3
              have hok := okW_getD HRO.out (k + j)
              obtain ⟨o, hoE⟩ : ∃ o, o = rq.getD (k + j) 0 := ⟨_, rfl⟩
              rw [← hoE] at hc3 hok
              have HOE := Hid.mk hoE
              have hpr : xk * yk ≤ 18446744065119617025 := Nat.le_trans (Nat.mul_le_mul (show xk ≤ 4294967295 by omega) (show yk ≤ 4294967295 by omega)) (by omega)
              have hpr' : (xk : Int) * (yk : Int) ≤ 18446744065119617025 := by rw [← Int.natCast_mul]; omega
              have hpr0 : 0 ≤ (xk : Int) * (yk : Int) := Int.mul_nonneg (by omega) (by omega)
              have hcc' : (cc : Int) ≤ 4294967295 := by omega
              have ho' : (o : Int) ≤ 4294967295 := by omega
              have hx' : (xk : Int) ≤ 4294967295 := by omega
              have hy' : (yk : Int) ≤ 4294967295 := by omega
              have hjl' : (j : Int) < (nB : Int) := by omega
              have hst := hown.stored (k + j) (.int .u32 (((cc : Int) + ((xk : Int) * yk + o)) % 4294967296))
              have ecast : ((cc : Int) + ((xk : Int) * yk + o)) % 4294967296 = (((cc + (xk * yk + o)) % 4294967296 : Nat) : Int) := by rw [← Int.natCast_mul]; omega
              have ecast2 : ((cc : Int) + ((xk : Int) * yk + o)) / 4294967296 = (((cc + (xk * yk + o)) / 4294967296 : Nat) : Int) := by rw [← Int.natCast_mul]; omega
              rw [ecast, cellsW_setAt, ← ecast] at hst
              have hb4 := hbel.grown hst.2 hbel.size (fun q hq => by cases hq; exact Nat.le_refl _)
              have HST := Hid.mk hst.1
              have HB4 := Hid.mk hb4
              have HE2 := Hid.mk ecast2
              have hcn : (cc + (xk * yk + o)) / 4294967296 < 4294967296 := by omega
              have hmv := mul_step HRV.out HYE.out (by have := HLB.out; omega) (by have := HRL.out; omega)
              rw [← HOE.out] at hmv
              have HMV := Hid.mk hmv
              have HCN := Hid.mk hcn
              clear hyE hoE hst ecast ecast2 hb4 hcn hmv hown hpr
              go_wp2_with fail
              go_quiet (fail)
              go_wp2_with fail
              go_roundw
              case rel => exact ⟨j + 1, (cc + (xk * yk + o)) / 4294967296, rq.set (k + j) ((cc + (xk * yk + o)) % 4294967296), by omega, by go_num, (by rw [← HE2.out]), HCN.out, (by rw [List.length_set]; exact HRL.out), okW_set HRO.out _ _ (by omega), set_zero HRZ.out (by omega), HMV.out, HST.out, HB4.out.trans ⟨rfl, rfl, rfl, Nat.le_refl _, fun _ _ => rfl⟩⟩
              case measure => simp [intOf]; omega
            · have e : j = nB := by omega
              subst e
              have hc3 := hown.cellAt (k + j) (by omega)
              have hf3 := hown.frozenAt (k + j)
              rw [cellsW_get rq (k + j) (by have := HRL.out; omega), HRZ.out (k + j) (Nat.le_refl _)] at hc3
              have hst := hown.stored (k + j) (.int .u32 (cc : Int))
              rw [cellsW_setAt] at hst
              have hcc' : (cc : Int) ≤ 4294967295 := by omega
              have hb4 := hbel.grown hst.2 hbel.size (fun q hq => by cases hq; exact Nat.le_refl _)
              have HST := Hid.mk hst.1
              have HB4 := Hid.mk hb4
              have hme := mul_end HRV.out HLB.out HXE.out (by have := HLA.out; omega) (by have := HRL.out; omega) (HRZ.out (k + j) (Nat.le_refl _))
              have HME := Hid.mk hme
              clear hst hb4 hown hme
              go_wp2_with fail
              go_roundw
              case rel => exact ⟨k + 1, rq.set (k + j) cc, by omega, by go_num, (by rw [List.length_set]; exact HRL.out), okW_set HRO.out _ _ (by omega), set_zero (fun p hp => HRZ.out p (by omega)) (by omega), HME.out, HST.out, HB4.out⟩
              case measure => simp [intOf]; omega
    · have e : k = nA := by omega
      subst e
      have hfull : xs.take k = xs := List.take_of_length_le (by have := HLA.out; omega)
      have hrv := HRV.out
      rw [hfull] at hrv
      have HV := Hid.mk hrv
      have hW := isW_own hown HRL.out (by unfold maxLen; omega) HRO.out
      have HW := Hid.mk hW
      clear hrv hfull hW hown
      go_wp2_with fail
      refine (trim_any _ rs _ HW.out (by have := HRL.out; omega)).mono ?_
      rintro e w3 ⟨v', qs, rfl, hr1, hr2, hr3, hr4, rfl⟩
      have hr5 : valW qs = valW xs * valW ys := by rw [hr2]; exact HV.out
      have HR5 := Hid.mk hr5
      have hr6 : qs.length ≤ k + nB := by have := HRL.out; omega
      clear hr2 hr5 hr4
      go_wp2_with fail
      go_ret
      exact ⟨_, qs, rfl, hr1, HR5.out, hr3, hr6, hbel⟩

theorem mul_any (va vb : Value) (xs ys : List Nat) (w : World) (ha : IsW w va xs) (hb : IsW w vb ys) (hla : xs.length ≤ 10000) (hlb : ys.length ≤ 10000) :
    Calls Tryz.prog 144 #[va, vb] w fun e w' => ∃ v' rs, e = .returned v' ∧ IsW w' v' rs ∧ valW rs = valW xs * valW ys ∧ trimW rs ∧ rs.length ≤ xs.length + ys.length ∧ Below w.heap.size w w' := by
  by_cases h : xs.length = 0 ∨ ys.length = 0
  · refine (mul_nil va vb xs ys w ha hb h hlb).mono fun e w' ⟨he, hw⟩ => ⟨_, [], he, isW_nil _, ?_, Or.inl rfl, Nat.zero_le _, hw ▸ Below.refl _ _⟩
    rcases h with h | h
    · rw [List.eq_nil_of_length_eq_zero h]; simp [valW]
    · rw [List.eq_nil_of_length_eq_zero h]; simp [valW]
  · exact mul_pos va vb xs ys w ha hb hla hlb (by omega) (by omega)
end Ww
end Go.Proofs.YtjgliinpaadbnaaGreatDoor
namespace Go.Proofs.YtjgliinpaadbnaaGreatDoor
open Go.ChangeShapes Go.WideShapes Go.ChangeAt Go.RowKit
namespace Ww
open Wm
theorem sub_step {zs xs ys : List Nat} {k cc xk yk wk c2 : Nat} (hv : valW (xs.take k) + 2 ^ (32 * k) * cc = valW zs + valW (ys.take k)) (hz : zs.length = k) (hx : xk = xs.getD k 0) (hk : k < xs.length) (hy : valW (ys.take (k + 1)) = valW (ys.take k) + 2 ^ (32 * k) * yk) (hw : xk + 4294967296 * c2 = wk + yk + cc) :
    valW (xs.take (k + 1)) + 2 ^ (32 * (k + 1)) * c2 = valW (zs ++ [wk]) + valW (ys.take (k + 1)) := by
  rw [valW_snoc, hz, take_snocN xs k hk, valW_snoc, List.length_take, Nat.min_eq_left (by omega), ← hx, pow32, hy]
  have h1 : 2 ^ (32 * k) * (xk + 4294967296 * c2) = 2 ^ (32 * k) * (wk + yk + cc) := by rw [hw]
  rw [Nat.mul_add, Nat.mul_add, Nat.mul_add, ← Nat.mul_assoc] at h1
  omega
theorem take_val (ys : List Nat) (k : Nat) : valW (ys.take (k + 1)) = valW (ys.take k) + 2 ^ (32 * k) * ys.getD k 0 := by
  by_cases h : k < ys.length
  · rw [take_snocN ys k h, valW_snoc, List.length_take, Nat.min_eq_left (by omega)]
  · rw [take_more ys k (by omega)]
    simp [List.getD, List.getElem?_eq_none (Nat.le_of_not_lt h)]
set_option maxHeartbeats 8000000 in
set_option maxRecDepth 100000 in
theorem sub_any (va vb : Value) (xs ys : List Nat) (w : World) (ha : IsW w va xs) (hb : IsW w vb ys) (hla : xs.length ≤ 10000) (hlb : ys.length ≤ xs.length) (hle : valW ys ≤ valW xs) :
    Calls Tryz.prog 101 #[va, vb] w fun e w' => ∃ v' rs, e = .returned v' ∧ IsW w' v' rs ∧ valW rs = valW xs - valW ys ∧ trimW rs ∧ Below w.heap.size w w' := by
  obtain ⟨a, ca, rfl, hca, hma, hna, hcea, hoa⟩ := ha
  obtain ⟨b, cb, rfl, hcb, hmb, hnb, hceb, hob⟩ := hb
  have HCA := Hid.mk hcea
  have HCB := Hid.mk hceb
  have HNA := Hid.mk hna
  have HNB := Hid.mk hnb
  have HOA := Hid.mk hoa
  have HOB := Hid.mk hob
  have HLE := Hid.mk hle
  obtain ⟨nA, hnA⟩ : ∃ n, n = xs.length := ⟨_, rfl⟩
  obtain ⟨nB, hnB⟩ : ∃ n, n = ys.length := ⟨_, rfl⟩
  rw [← hnA] at hla hlb ⊢
  rw [← hnB] at hlb ⊢
  have HLA := Hid.mk hnA
  have HLB := Hid.mk hnB
  obtain ⟨i0, hi, hz0, hz1, hz2⟩ := info_parts info_u32
  clear hcea hceb hna hnb hoa hob hnA hnB hca hcb hma hmb hle
  go_enter Tryz.func101, Tryz.ntmps101
  go_wp2_with (at_make; refine wpList_make_full _ rfl (.tmp 10) (.tmp 10) 83 rfl w.heap.size 142 i0 (.int .u32 0) 1 Tryz.underlying83 hi hz0 hz1 .i64 .i64 _ _ nA rfl rfl (by omega) (by omega) (by rw [hz2]; omega) (by unfold maxLen; omega) (Nat.le_refl _) ?_; intro w2 hown hgrow)
  have hown0 : w2.ownsRow w.heap.size 142 1 (.slice (some ⟨w.heap.size, 0, none⟩) nA nA) nA (cellsW ([] ++ List.replicate (nA - 0) 0)) := by
    rw [cellsW_rep, ← toList_madeCells_one]
    rw [Nat.mul_one] at hown
    exact hown
  have hb2 : Below w.heap.size w w2 := Below.grown (Below.refl _ _) hgrow (Nat.le_refl _) (fun q hq => by cases hq)
  clear hown hgrow hi hz0 hz1 hz2
  go_wp2_with fail
  go_loopw [6, 7] (fun c i wr => ∃ (k cc : Nat) (zs : List Nat), k ≤ nA ∧ i = .int .i64 k ∧ c = .int .u64 cc ∧ cc ≤ 1 ∧ zs.length = k ∧ okW zs ∧ valW (xs.take k) + 2 ^ (32 * k) * cc = valW zs + valW (ys.take k) ∧
      wr.ownsRow w.heap.size 142 1 (.slice (some ⟨w.heap.size, 0, none⟩) nA nA) nA (cellsW (zs ++ List.replicate (nA - k) 0)) ∧ Below w.heap.size w wr) (fun _ i _ => nA - (intOf i).toNat)
  case atStart => exact ⟨0, 0, [], Nat.zero_le _, rfl, rfl, by omega, rfl, (fun x hx => by cases hx), by simp [valW], hown0, hb2⟩
  case round =>
    clear hown0 hb2
    obtain ⟨k, cc, zs, hk, rfl, rfl, hcc, hzl, hzo, hval, hown, hbel⟩ := hrel
    have HZL := Hid.mk hzl
    have HZO := Hid.mk hzo
    have HV := Hid.mk hval
    clear hzl hzo hval
    by_cases hlt : k < nA
    · cases a with
      | none => exact absurd (HNA.out rfl) (by have := HLA.out; omega)
      | some p =>
        have hcx := Bw.cell_kept hbel (HCA.out p rfl k (by have := HLA.out; omega))
        have hxk := okW_getD HOA.out k
        obtain ⟨xk, hxE⟩ : ∃ xk, xk = xs.getD k 0 := ⟨_, rfl⟩
        rw [← hxE] at hcx hxk
        have HXE := Hid.mk hxE
        clear hxE
        have hxk' : (xk : Int) ≤ 4294967295 := by omega
        have hlt' : (k : Int) < (nA : Int) := by omega
        have hcc' : (cc : Int) ≤ 1 := by omega
        have hc3 := hown.cellAt k (by omega)
        have hf3 := hown.frozenAt k
        rw [cellsW_at zs nA k HZL.out (by omega)] at hc3
        have hyk := okW_getD HOB.out k
        have HYV := Hid.mk (take_val ys k)
        obtain ⟨yk, hyE⟩ : ∃ yk, yk = ys.getD k 0 := ⟨_, rfl⟩
        rw [← hyE] at hyk HYV
        have HYE := Hid.mk hyE
        clear hyE
        obtain ⟨D1, hD1⟩ : ∃ D1 : Int, D1 = ((xk : Int) - (cc : Int)) % 18446744073709551616 := ⟨_, rfl⟩
        obtain ⟨D2, hD2⟩ : ∃ D2 : Int, D2 = (D1 - (yk : Int)) % 18446744073709551616 := ⟨_, rfl⟩
        obtain ⟨wk, c2, hwk, hc2, hw1, hw2, hw3⟩ : ∃ wk c2 : Nat, wk < 4294967296 ∧ c2 ≤ 1 ∧ xk + 4294967296 * c2 = wk + yk + cc ∧ D2 % 4294967296 = (wk : Int) ∧ D2 / 9223372036854775808 = (c2 : Int) := by
          by_cases hs : yk + cc ≤ xk
          · exact ⟨xk - yk - cc, 0, by omega, by omega, by omega, by omega, by omega⟩
          · exact ⟨xk + 4294967296 - yk - cc, 1, by omega, by omega, by omega, by omega, by omega⟩
        have e1 : IntKind.u64.wrap ((xk : Int) - (cc : Int)) = D1 := by rw [IntKind.wrap_u64, hD1]
        have hD1b : 0 ≤ D1 ∧ D1 ≤ 18446744073709551615 := by omega
        have hD2b : 0 ≤ D2 ∧ D2 ≤ 18446744073709551615 := by omega
        obtain ⟨d1a, d1b⟩ := hD1b
        obtain ⟨d2a, d2b⟩ := hD2b
        have hst := hown.stored k (.int .u32 (wk : Int))
        rw [cellsW_set zs nA k wk HZL.out (by omega)] at hst
        have HST := Hid.mk hst
        have HW1 := Hid.mk hw1
        clear hst hown hw1
        by_cases hly : k < nB
        · cases b with
          | none => exact absurd (HNB.out rfl) (by have := HLB.out; omega)
          | some q =>
            have hcy := Bw.cell_kept hbel (HCB.out q rfl k (by have := HLB.out; omega))
            rw [← HYE.out] at hcy
            have hyk' : (yk : Int) ≤ 4294967295 := by omega
            have hly' : (k : Int) < (nB : Int) := by omega
            have e2 : IntKind.u64.wrap (D1 - (yk : Int)) = D2 := by rw [IntKind.wrap_u64, hD2]
            clear hD1 hD2
            go_wp2_with fail
            go_roundw
            case rel => exact ⟨k + 1, c2, zs ++ [wk], by omega, by go_num, by go_num, hc2, (by rw [List.length_append, HZL.out]; rfl), okW_append HZO.out (okW_one (by omega)), sub_step HV.out HZL.out HXE.out (by have := HLA.out; omega) HYV.out HW1.out, HST.out.1, hbel.grown HST.out.2 hbel.size (fun q hq => by cases hq; exact Nat.le_refl _)⟩
            case measure => simp [intOf]; omega
        · have hly' : (nB : Int) ≤ (k : Int) := by omega
          have hy0 : yk = 0 := by rw [HYE.out]; simp [List.getD, List.getElem?_eq_none (show ys.length ≤ k by have := HLB.out; omega)]
          have hDD : D2 = D1 := by rw [hD2, hy0]; simp only [Int.natCast_zero, Int.sub_zero]; omega
          rw [hDD] at hw2 hw3
          clear hD1 hD2 hDD hy0 d2a d2b
          go_wp2_with fail
          go_roundw
          case rel => exact ⟨k + 1, c2, zs ++ [wk], by omega, by go_num, by go_num, hc2, (by rw [List.length_append, HZL.out]; rfl), okW_append HZO.out (okW_one (by omega)), sub_step HV.out HZL.out HXE.out (by have := HLA.out; omega) HYV.out HW1.out, HST.out.1, hbel.grown HST.out.2 hbel.size (fun q hq => by cases hq; exact Nat.le_refl _)⟩
          case measure => simp [intOf]; omega
    · have e : k = nA := by omega
      subst e
      rw [Nat.sub_self, List.replicate_zero, List.append_nil] at hown
      have HOW := Hid.mk (isW_own hown HZL.out (by unfold maxLen; omega) HZO.out)
      clear hown
      go_wp2_with fail
      refine (trim_any _ zs _ HOW.out (by rw [HZL.out]; omega)).mono ?_
      rintro e w3 ⟨v', rs, rfl, hr1, hr2, hr3, hr4, hw3⟩
      subst hw3
      have hvv : valW rs = valW xs - valW ys := by
        have hv := HV.out
        have hX := HLA.out
        have hY := HLB.out
        have hl := HLE.out
        have hzv := valW_lt zs HZO.out
        rw [HZL.out] at hzv
        rw [List.take_of_length_le (by omega), List.take_of_length_le (by omega)] at hv
        rw [hr2]
        have hc0 : cc = 0 := by
          rcases Nat.eq_zero_or_pos cc with h | h
          · exact h
          · exfalso
            have : 2 ^ (32 * k) * 1 ≤ 2 ^ (32 * k) * cc := Nat.mul_le_mul_left _ h
            omega
        rw [hc0] at hv
        omega
      have HVV := Hid.mk hvv
      clear hvv hr2
      go_wp2_with fail
      go_ret
      exact ⟨_, rs, rfl, hr1, HVV.out, hr3, hbel⟩
end Ww
end Go.Proofs.YtjgliinpaadbnaaGreatDoor
namespace Go.Proofs.YtjgliinpaadbnaaGreatDoor
open Go.ChangeShapes Go.WideShapes Go.ChangeAt Go.RowKit Go.Sort
namespace Ww
open Wm
open Bw (Tch bl2 cell_kept)
theorem abs_smallA {r : Int} (h1 : -4611686018427387903 ≤ r) (h2 : r ≤ 4611686018427387903) {xs : List Nat} (hv : valW xs = r.natAbs) : valW xs < 2 ^ 62 := by omega
set_option maxHeartbeats 4000000 in
theorem uint64_z (g o : Nat) (r : Int) (w : World) (h : ZAt w g o r) (hr1 : -4611686018427387903 ≤ r) (hr2 : r ≤ 4611686018427387903) :
    Calls Tryz.prog 104 #[.pointer (some ⟨g, o, none⟩)] w fun e w' => e = .returned (.int .u64 (r.natAbs : Int)) ∧ w' = w := by
  obtain ⟨va, xs, a1, a2, hW, ht, hv⟩ := h
  have hn := abs_smallA hr1 hr2 hv
  have hl := len_two ht hn
  obtain ⟨a, c, rfl, hc, hm, hnil, hcells, hok⟩ := hW
  rw [← hv]
  clear ht a1 hv hr1 hr2
  match xs, hl with
  | [], _ =>
    clear hcells hnil hok hn hm hc
    simp only [List.length_nil, valW] at a2 ⊢
    go_enter Tryz.func104, Tryz.ntmps104
    go_wp2
    go_ret
    exact ⟨rfl, rfl⟩
  | [x], _ =>
    have hv : valW [x] = x := by simp [valW]
    rw [hv]
    cases a with
    | none => exact absurd (hnil rfl) (by simp)
    | some p =>
      have h0 := hcells p rfl 0 (by simp)
      have hx := hok x (by simp)
      have hx' : (x : Int) ≤ 4294967295 := by omega
      rw [addr0] at h0
      simp only [List.length_singleton, List.getD_cons_zero] at h0 a2 ⊢
      clear hcells hnil hok hv hn hm hc
      go_enter Tryz.func104, Tryz.ntmps104
      go_wp2
      go_ret
      exact ⟨rfl, rfl⟩
  | [x, y], _ =>
    have hv : valW [x, y] = x + 4294967296 * y := by simp [valW]
    rw [hv] at hn ⊢
    cases a with
    | none => exact absurd (hnil rfl) (by simp)
    | some p =>
      have h0 := hcells p rfl 0 (by simp)
      have h1 := hcells p rfl 1 (by simp)
      have hx := hok x (by simp)
      have hy2 : y < 1073741824 := by omega
      have hor := or_hiW x y hx hy2
      have hx' : (x : Int) ≤ 4294967295 := by omega
      have hy' : (y : Int) ≤ 1073741823 := by omega
      rw [addr0] at h0
      simp only [List.length_cons, List.length_nil, List.getD_cons_zero, List.getD_cons_succ] at h0 h1 a2 ⊢
      have h1' : w.cell? ⟨p.block, p.off + 1, none⟩ = some (.int .u32 (y : Int)) := by rw [← h1]; simp [Addr.add]
      clear hcells hnil hok hv hn h1 hm hc
      go_enter Tryz.func104, Tryz.ntmps104
      go_wp2
      go_ret
      exact ⟨rfl, rfl⟩
set_option maxHeartbeats 4000000 in
theorem int64_z (g o : Nat) (r : Int) (w : World) (h : ZAt w g o r) (hr1 : -4611686018427387903 ≤ r) (hr2 : r ≤ 4611686018427387903) :
    Calls Tryz.prog 59 #[.pointer (some ⟨g, o, none⟩)] w fun e w' => e = .returned (.int .i64 r) ∧ w' = w := by
  have hU := uint64_z g o r w h hr1 hr2
  obtain ⟨va, xs, a1, -, -, -, -⟩ := h
  obtain ⟨U, hUd⟩ : ∃ U : Int, U = (r.natAbs : Int) := ⟨_, rfl⟩
  rw [← hUd] at hU
  have HU := Hid.mk hU
  have hb1 : 0 ≤ U := by omega
  have hb2 : U ≤ 4611686018427387903 := by omega
  by_cases hn : r < 0
  · rw [decide_eq_true hn] at a1
    have hr : r = -U := by omega
    rw [hr]
    clear hr hn hUd hr1 hr2 hU
    go_enter Tryz.func59, Tryz.ntmps59
    go_wp2_with fail
    with_reducible refine HU.out.mono ?_
    rintro e w1 ⟨rfl, hw1⟩
    obtain rfl := hw1.symm
    go_wp2_with fail
    go_ret
    exact ⟨rfl, rfl⟩
  · rw [decide_eq_false hn] at a1
    have hr : r = U := by omega
    rw [hr]
    clear hr hn hUd hr1 hr2 hU
    go_enter Tryz.func59, Tryz.ntmps59
    go_wp2_with fail
    with_reducible refine HU.out.mono ?_
    rintro e w1 ⟨rfl, hw1⟩
    obtain rfl := hw1.symm
    go_wp2_with fail
    go_ret
    exact ⟨rfl, rfl⟩
/-- a flag that tells a number's sign, but of 0 -/
def Flag (f : Bool) (x : Int) : Prop := x ≠ 0 → f = decide (x < 0)
theorem val_len {xs ys : List Nat} (hx : okW xs) (hty : trimW ys) (h : valW ys ≤ valW xs) : ys.length ≤ xs.length :=
  trimW_len hty xs.length (Nat.lt_of_le_of_lt h (valW_lt xs hx))
theorem okOf {w : World} {v : Value} {xs : List Nat} (h : IsW w v xs) : okW xs := by obtain ⟨_, _, _, _, _, _, _, h⟩ := h; exact h
set_option maxHeartbeats 8000000 in
set_option maxRecDepth 100000 in
theorem sum_z (fx fy : Bool) (va vb : Value) (xs ys : List Nat) (x y : Int) (w : World) (ha : IsW w va xs) (hb : IsW w vb ys) (hta : trimW xs) (htb : trimW ys) (hva : valW xs = x.natAbs) (hvb : valW ys = y.natAbs) (hfx : Flag fx x) (hfy : Flag fy y) (hx1 : -4611686018427387903 ≤ x) (hx2 : x ≤ 4611686018427387903) (hy1 : -4611686018427387903 ≤ y) (hy2 : y ≤ 4611686018427387903) :
    Calls Tryz.prog 143 #[.bool fx, va, .bool fy, vb] w fun e w' => ∃ f v' zs, e = .returned (.tuple #[.bool f, v']) ∧ Flag f (x + y) ∧ IsW w' v' zs ∧ trimW zs ∧ valW zs = (x + y).natAbs ∧ Below w.heap.size w w' := by
  have hla := len_two hta (abs_smallA hx1 hx2 hva)
  have hlb := len_two htb (abs_smallA hy1 hy2 hvb)
  have HAD := Hid.mk (add_any va vb xs ys w ha hb (by omega) (by omega))
  have HCM := Hid.mk (cmp_any va vb xs ys w ha hb hta htb (by omega) (by omega))
  have HS1 := Hid.mk (fun W (h : Below w.heap.size w W) (hle : valW ys ≤ valW xs) => sub_any va vb xs ys W (ha.below h) (hb.below h) (by omega) (val_len (okOf ha) htb hle) hle)
  have HS2 := Hid.mk (fun W (h : Below w.heap.size w W) (hle : valW xs ≤ valW ys) => sub_any vb va ys xs W (hb.below h) (ha.below h) (by omega) (val_len (okOf hb) hta hle) hle)
  obtain ⟨la, na, ca, rfl⟩ := ha.sliceB
  obtain ⟨lb, nb, cb, rfl⟩ := hb.sliceB
  by_cases hf : fx = fy
  · subst hf
    have hval : valW xs + valW ys = (x + y).natAbs := by
      rw [hva, hvb]
      by_cases h0 : x = 0
      · subst h0; simp
      · by_cases h1 : y = 0
        · subst h1; simp
        · have e1 := hfx h0
          have e2 := hfy h1
          rw [e1] at e2
          have := decide_eq_decide.1 e2
          omega
    have hfl : Flag fx (x + y) := by
      intro hne
      by_cases h0 : x = 0
      · subst h0
        rw [Int.zero_add] at hne ⊢
        exact hfy hne
      · have e1 := hfx h0
        by_cases h1 : y = 0
        · subst h1; rw [Int.add_zero]; exact e1
        · have e2 := hfy h1
          rw [e1] at e2 ⊢
          have := decide_eq_decide.1 e2
          rw [decide_eq_decide]
          omega
    have HVL := Hid.mk hval
    have HFL := Hid.mk hfl
    clear ha hb hta htb hva hvb hfx hfy hx1 hx2 hy1 hy2 hla hlb hval hfl HCM HS1 HS2
    go_enter Tryz.func143, Tryz.ntmps143
    cases fx
    all_goals
      go_wp2_with fail
      with_reducible refine HAD.out.mono ?_
      rintro e w1 ⟨v', rs, rfl, r1, r2, r3, r4, hb1⟩
      have HR1 := Hid.mk r1
      have HR2 := Hid.mk r2
      have HR3 := Hid.mk r3
      clear r1 r2 r3 r4
      go_wp2_with fail
      go_ret2
      exact ⟨_, _, rs, rfl, HFL.out, HR1.out, HR3.out, HR2.out.trans HVL.out, hb1⟩
  · have hff : (fx == fy) = false := by simpa using hf
    by_cases hle : y.natAbs ≤ x.natAbs
    · have hval : valW xs - valW ys = (x + y).natAbs := by
        rw [hva, hvb]
        by_cases h1 : y = 0
        · subst h1; simp
        · by_cases h0 : x = 0
          · omega
          · have e1 := hfx h0
            have e2 := hfy h1
            rw [e1, e2] at hf
            have : ¬ (x < 0 ↔ y < 0) := fun h => hf (decide_eq_decide.2 h)
            omega
      have hfl : Flag fx (x + y) := by
        intro hne
        have h0 : x ≠ 0 := by omega
        rw [hfx h0, decide_eq_decide]
        by_cases h1 : y = 0
        · subst h1; simp
        · have e1 := hfx h0
          have e2 := hfy h1
          rw [e1, e2] at hf
          have : ¬ (x < 0 ↔ y < 0) := fun h => hf (decide_eq_decide.2 h)
          omega
      have hcm : 0 ≤ cmpN (valW xs) (valW ys) := by unfold cmpN; rw [hva, hvb, if_neg (by omega)]; split <;> omega
      have HS := Hid.mk (fun W h => HS1.out W h (by rw [hva, hvb]; exact hle))
      generalize cmpN (valW xs) (valW ys) = C at *
      have HVL := Hid.mk hval
      have HFL := Hid.mk hfl
      clear ha hb hta htb hva hvb hfx hfy hx1 hx2 hy1 hy2 hla hlb hval hfl HAD HS1 HS2 hle hf
      go_enter Tryz.func143, Tryz.ntmps143
      go_wp2_with fail
      with_reducible refine HCM.out.mono ?_
      rintro e w1 ⟨rfl, hb1⟩
      have HB1 := Hid.mk hb1
      clear hb1
      go_wp2_with fail
      with_reducible refine (HS.out _ HB1.out).mono ?_
      rintro e w2 ⟨v', rs, rfl, r1, r2, r3, hb2⟩
      have HR1 := Hid.mk r1
      have HR2 := Hid.mk r2
      have HR3 := Hid.mk r3
      clear r1 r2 r3
      go_wp2_with fail
      go_ret2
      exact ⟨_, _, rs, rfl, HFL.out, HR1.out, HR3.out, HR2.out.trans HVL.out, bl2 HB1.out hb2⟩
    · have hval : valW ys - valW xs = (x + y).natAbs := by
        rw [hva, hvb]
        have h1 : y ≠ 0 := by omega
        by_cases h0 : x = 0
        · subst h0; simp
        · have e1 := hfx h0
          have e2 := hfy h1
          rw [e1, e2] at hf
          have : ¬ (x < 0 ↔ y < 0) := fun h => hf (decide_eq_decide.2 h)
          omega
      have hfl : Flag fy (x + y) := by
        intro hne
        have h1 : y ≠ 0 := by omega
        rw [hfy h1, decide_eq_decide]
        by_cases h0 : x = 0
        · subst h0; simp
        · have e1 := hfx h0
          have e2 := hfy h1
          rw [e1, e2] at hf
          have : ¬ (x < 0 ↔ y < 0) := fun h => hf (decide_eq_decide.2 h)
          omega
      have hcm : cmpN (valW xs) (valW ys) < 0 := by unfold cmpN; rw [hva, hvb, if_pos (by omega)]; omega
      have HS := Hid.mk (fun W h => HS2.out W h (by rw [hva, hvb]; omega))
      generalize cmpN (valW xs) (valW ys) = C at *
      have HVL := Hid.mk hval
      have HFL := Hid.mk hfl
      clear ha hb hta htb hva hvb hfx hfy hx1 hx2 hy1 hy2 hla hlb hval hfl HAD HS1 HS2 hle hf
      go_enter Tryz.func143, Tryz.ntmps143
      go_wp2_with fail
      with_reducible refine HCM.out.mono ?_
      rintro e w1 ⟨rfl, hb1⟩
      have HB1 := Hid.mk hb1
      clear hb1
      go_wp2_with fail
      with_reducible refine (HS.out _ HB1.out).mono ?_
      rintro e w2 ⟨v', rs, rfl, r1, r2, r3, hb2⟩
      have HR1 := Hid.mk r1
      have HR2 := Hid.mk r2
      have HR3 := Hid.mk r3
      clear r1 r2 r3
      go_wp2_with fail
      go_ret2
      exact ⟨_, _, rs, rfl, HFL.out, HR1.out, HR3.out, HR2.out.trans HVL.out, bl2 HB1.out hb2⟩
set_option maxHeartbeats 8000000 in
set_option maxRecDepth 100000 in
theorem iadd_z (gz : Nat) (cs : List Value) (T : TypeId) (gx ox gy oy : Nat) (x y : Int) (w : World) (hx : ZAt w gx ox x) (hy : ZAt w gy oy y) (hB : BlkAt w gz cs T) (hi : IntV cs) (hnx : gx ≠ gz) (hny : gy ≠ gz) (hx1 : -4611686018427387903 ≤ x) (hx2 : x ≤ 4611686018427387903) (hy1 : -4611686018427387903 ≤ y) (hy2 : y ≤ 4611686018427387903) :
    Calls Tryz.prog 140 #[.pointer (some ⟨gz, 0, none⟩), .pointer (some ⟨gx, ox, none⟩), .pointer (some ⟨gy, oy, none⟩)] w fun e w' => e = .returned (.pointer (some ⟨gz, 0, none⟩)) ∧ OutZ w w' gz 0 cs T (x + y) := by
  obtain ⟨va, xs, a1, a2, a3, a4, a5⟩ := hx
  obtain ⟨vb, ys, b1, b2, b3, b4, b5⟩ := hy
  have hB' : BlkAt w.drew gz cs T := hB
  have HTW := Hid.mk (sum_z (decide (x < 0)) (decide (y < 0)) va vb xs ys x y w.drew a3 b3 a4 b4 a5 b5 (fun _ => rfl) (fun _ => rfl) hx1 hx2 hy1 hy2)
  obtain ⟨b0, p0, l0, c0, hcs⟩ := hi
  have HGV := Hid.mk (fun f v' zs W (hb : Below w.drew.heap.size w.drew W) (hf : Flag f (x + y)) (hW : IsW W v' zs) (ht : trimW zs) (hv : valW zs = (x + y).natAbs) => give_z gz 0 cs T f v' zs (x + y) W (hB'.kept hb) (IntV.noW ⟨b0, p0, l0, c0, hcs⟩) ⟨b0, by rw [hcs]; rfl⟩ ⟨p0, l0, c0, by rw [hcs]; rfl⟩ hW ht hv hf)
  obtain ⟨la, na, ca, rfl⟩ := a3.sliceB
  obtain ⟨lb, nb, cb, rfl⟩ := b3.sliceB
  have hS0 : w.drew.cell? ⟨gx, ox, none⟩ = some (.bool (decide (x < 0))) ∧ w.drew.cell? ⟨gx, ox + 1, none⟩ = some (.slice la na ca) ∧ w.drew.cell? ⟨gy, oy, none⟩ = some (.bool (decide (y < 0))) ∧ w.drew.cell? ⟨gy, oy + 1, none⟩ = some (.slice lb nb cb) := ⟨a1, a2, b1, b2⟩
  generalize decide (x < 0) = X at *
  generalize decide (y < 0) = Y at *
  have HNX := Hid.mk hnx
  have HNY := Hid.mk hny
  clear a3 a4 a5 b3 b4 b5 hB hB' hx1 hx2 hy1 hy2 hcs hnx hny
  go_enter Tryz.func140, Tryz.ntmps140
  go_wp2_with fail
  go_region_held3 (fun w' => w'.cell? ⟨gx, ox, none⟩ = some (.bool X) ∧ w'.cell? ⟨gx, ox + 1, none⟩ = some (.slice la na ca) ∧ w'.cell? ⟨gy, oy, none⟩ = some (.bool Y) ∧ w'.cell? ⟨gy, oy + 1, none⟩ = some (.slice lb nb cb)) (first | exact hS0 | exact hS1 | exact hS2) (first
    | (go_at_call 143; with_reducible refine HTW.out.mono ?_; rintro e w1 ⟨f, v', zs, rfl, hfl, z1, z2, z3, hb1⟩
       have hS1 : w1.cell? ⟨gx, ox, none⟩ = some (.bool X) ∧ w1.cell? ⟨gx, ox + 1, none⟩ = some (.slice la na ca) ∧ w1.cell? ⟨gy, oy, none⟩ = some (.bool Y) ∧ w1.cell? ⟨gy, oy + 1, none⟩ = some (.slice lb nb cb) := ⟨cell_kept hb1 hS0.1, cell_kept hb1 hS0.2.1, cell_kept hb1 hS0.2.2.1, cell_kept hb1 hS0.2.2.2⟩
       have HG := Hid.mk (HGV.out f v' zs w1 hb1 hfl z1 z2 z3)
       have HB1 := Hid.mk hb1
       clear z1 z2 z3 hb1 hfl)
    | (go_at_call 97; with_reducible refine HG.out.mono ?_; rintro e w2 ⟨rfl, hO⟩
       have hS2 : w2.cell? ⟨gx, ox, none⟩ = some (.bool X) ∧ w2.cell? ⟨gx, ox + 1, none⟩ = some (.slice la na ca) ∧ w2.cell? ⟨gy, oy, none⟩ = some (.bool Y) ∧ w2.cell? ⟨gy, oy + 1, none⟩ = some (.slice lb nb cb) := ⟨cell_tch hS1.1 hO.1 (by simpa using HNX.out), cell_tch hS1.2.1 hO.1 (by simpa using HNX.out), cell_tch hS1.2.2.1 hO.1 (by simpa using HNY.out), cell_tch hS1.2.2.2 hO.1 (by simpa using HNY.out)⟩
       have HO := Hid.mk hO
       clear hO))
  go_wp2_with fail
  go_ret
  exact ⟨rfl, HO.out.pre (bl2 (Ww.drBw1 w) HB1.out)⟩
theorem flag_neg (y : Int) : Flag (!decide (y < 0)) (-y) := by
  intro h
  by_cases h1 : y < 0
  · rw [decide_eq_true h1, decide_eq_false (by omega)]; rfl
  · rw [decide_eq_false h1, decide_eq_true (by omega)]; rfl
set_option maxHeartbeats 8000000 in
set_option maxRecDepth 100000 in
theorem isub_z (gz : Nat) (cs : List Value) (T : TypeId) (gx ox gy oy : Nat) (x y : Int) (w : World) (hx : ZAt w gx ox x) (hy : ZAt w gy oy y) (hB : BlkAt w gz cs T) (hi : IntV cs) (hnx : gx ≠ gz) (hny : gy ≠ gz) (hx1 : -4611686018427387903 ≤ x) (hx2 : x ≤ 4611686018427387903) (hy1 : -4611686018427387903 ≤ y) (hy2 : y ≤ 4611686018427387903) :
    Calls Tryz.prog 93 #[.pointer (some ⟨gz, 0, none⟩), .pointer (some ⟨gx, ox, none⟩), .pointer (some ⟨gy, oy, none⟩)] w fun e w' => e = .returned (.pointer (some ⟨gz, 0, none⟩)) ∧ OutZ w w' gz 0 cs T (x + -y) := by
  obtain ⟨va, xs, a1, a2, a3, a4, a5⟩ := hx
  obtain ⟨vb, ys, b1, b2, b3, b4, b5⟩ := hy
  have hB' : BlkAt w.drew gz cs T := hB
  have HTW := Hid.mk (sum_z (decide (x < 0)) (!decide (y < 0)) va vb xs ys x (-y) w.drew a3 b3 a4 b4 a5 (by rw [b5, Int.natAbs_neg]) (fun _ => rfl) (flag_neg y) hx1 hx2 (by omega) (by omega))
  obtain ⟨b0, p0, l0, c0, hcs⟩ := hi
  have HGV := Hid.mk (fun f v' zs W (hb : Below w.drew.heap.size w.drew W) (hf : Flag f (x + -y)) (hW : IsW W v' zs) (ht : trimW zs) (hv : valW zs = (x + -y).natAbs) => give_z gz 0 cs T f v' zs (x + -y) W (hB'.kept hb) (IntV.noW ⟨b0, p0, l0, c0, hcs⟩) ⟨b0, by rw [hcs]; rfl⟩ ⟨p0, l0, c0, by rw [hcs]; rfl⟩ hW ht hv hf)
  obtain ⟨la, na, ca, rfl⟩ := a3.sliceB
  obtain ⟨lb, nb, cb, rfl⟩ := b3.sliceB
  have hS0 : w.drew.cell? ⟨gx, ox, none⟩ = some (.bool (decide (x < 0))) ∧ w.drew.cell? ⟨gx, ox + 1, none⟩ = some (.slice la na ca) ∧ w.drew.cell? ⟨gy, oy, none⟩ = some (.bool (decide (y < 0))) ∧ w.drew.cell? ⟨gy, oy + 1, none⟩ = some (.slice lb nb cb) := ⟨a1, a2, b1, b2⟩
  generalize decide (x < 0) = X at *
  generalize decide (y < 0) = Y at *
  have HNX := Hid.mk hnx
  have HNY := Hid.mk hny
  clear a3 a4 a5 b3 b4 b5 hB hB' hx1 hx2 hy1 hy2 hcs hnx hny
  go_enter Tryz.func93, Tryz.ntmps93
  go_wp2_with fail
  go_region_held3 (fun w' => w'.cell? ⟨gx, ox, none⟩ = some (.bool X) ∧ w'.cell? ⟨gx, ox + 1, none⟩ = some (.slice la na ca) ∧ w'.cell? ⟨gy, oy, none⟩ = some (.bool Y) ∧ w'.cell? ⟨gy, oy + 1, none⟩ = some (.slice lb nb cb)) (first | exact hS0 | exact hS1 | exact hS2) (first
    | (go_at_call 143; with_reducible refine HTW.out.mono ?_; rintro e w1 ⟨f, v', zs, rfl, hfl, z1, z2, z3, hb1⟩
       have hS1 : w1.cell? ⟨gx, ox, none⟩ = some (.bool X) ∧ w1.cell? ⟨gx, ox + 1, none⟩ = some (.slice la na ca) ∧ w1.cell? ⟨gy, oy, none⟩ = some (.bool Y) ∧ w1.cell? ⟨gy, oy + 1, none⟩ = some (.slice lb nb cb) := ⟨cell_kept hb1 hS0.1, cell_kept hb1 hS0.2.1, cell_kept hb1 hS0.2.2.1, cell_kept hb1 hS0.2.2.2⟩
       have HG := Hid.mk (HGV.out f v' zs w1 hb1 hfl z1 z2 z3)
       have HB1 := Hid.mk hb1
       clear z1 z2 z3 hb1 hfl)
    | (go_at_call 97; with_reducible refine HG.out.mono ?_; rintro e w2 ⟨rfl, hO⟩
       have hS2 : w2.cell? ⟨gx, ox, none⟩ = some (.bool X) ∧ w2.cell? ⟨gx, ox + 1, none⟩ = some (.slice la na ca) ∧ w2.cell? ⟨gy, oy, none⟩ = some (.bool Y) ∧ w2.cell? ⟨gy, oy + 1, none⟩ = some (.slice lb nb cb) := ⟨cell_tch hS1.1 hO.1 (by simpa using HNX.out), cell_tch hS1.2.1 hO.1 (by simpa using HNX.out), cell_tch hS1.2.2.1 hO.1 (by simpa using HNY.out), cell_tch hS1.2.2.2 hO.1 (by simpa using HNY.out)⟩
       have HO := Hid.mk hO
       clear hO))
  go_wp2_with fail
  go_ret
  exact ⟨rfl, HO.out.pre (bl2 (Ww.drBw1 w) HB1.out)⟩
theorem flag_mul (x y : Int) : Flag (!(decide (x < 0) == decide (y < 0))) (x * y) := by
  intro h
  have h0 : x ≠ 0 := fun e => h (by rw [e]; simp)
  have h1 : y ≠ 0 := fun e => h (by rw [e]; simp)
  by_cases hx : x < 0
  · by_cases hy : y < 0
    · have := Int.mul_pos_of_neg_of_neg hx hy
      rw [decide_eq_true hx, decide_eq_true hy, decide_eq_false (by omega)]; rfl
    · have := Int.mul_neg_of_neg_of_pos hx (show 0 < y by omega)
      rw [decide_eq_true hx, decide_eq_false hy, decide_eq_true this]; rfl
  · by_cases hy : y < 0
    · have := Int.mul_neg_of_pos_of_neg (show 0 < x by omega) hy
      rw [decide_eq_false hx, decide_eq_true hy, decide_eq_true this]; rfl
    · have := Int.mul_pos (show 0 < x by omega) (show 0 < y by omega)
      rw [decide_eq_false hx, decide_eq_false hy, decide_eq_false (by omega)]; rfl
set_option maxHeartbeats 8000000 in
set_option maxRecDepth 100000 in
theorem imul_z (gz : Nat) (cs : List Value) (T : TypeId) (gx ox gy oy : Nat) (x y : Int) (w : World) (hx : ZAt w gx ox x) (hy : ZAt w gy oy y) (hB : BlkAt w gz cs T) (hi : IntV cs) (hnx : gx ≠ gz) (hny : gy ≠ gz) (hx1 : -4611686018427387903 ≤ x) (hx2 : x ≤ 4611686018427387903) (hy1 : -4611686018427387903 ≤ y) (hy2 : y ≤ 4611686018427387903) :
    Calls Tryz.prog 94 #[.pointer (some ⟨gz, 0, none⟩), .pointer (some ⟨gx, ox, none⟩), .pointer (some ⟨gy, oy, none⟩)] w fun e w' => e = .returned (.pointer (some ⟨gz, 0, none⟩)) ∧ OutZ w w' gz 0 cs T (x * y) := by
  obtain ⟨va, xs, a1, a2, a3, a4, a5⟩ := hx
  obtain ⟨vb, ys, b1, b2, b3, b4, b5⟩ := hy
  have hB' : BlkAt w.drew gz cs T := hB
  have hMU := mul_any va vb xs ys w.drew a3 b3 (by have := len_two a4 (abs_smallA hx1 hx2 a5); omega) (by have := len_two b4 (abs_smallA hy1 hy2 b5); omega)
  rw [a5, b5, ← Int.natAbs_mul] at hMU
  have HTW := Hid.mk hMU
  have HFL := Hid.mk (flag_mul x y)
  clear hMU
  obtain ⟨b0, p0, l0, c0, hcs⟩ := hi
  have HGV := Hid.mk (fun f v' zs W (hb : Below w.drew.heap.size w.drew W) (hf : Flag f (x * y)) (hW : IsW W v' zs) (ht : trimW zs) (hv : valW zs = (x * y).natAbs) => give_z gz 0 cs T f v' zs (x * y) W (hB'.kept hb) (IntV.noW ⟨b0, p0, l0, c0, hcs⟩) ⟨b0, by rw [hcs]; rfl⟩ ⟨p0, l0, c0, by rw [hcs]; rfl⟩ hW ht hv hf)
  obtain ⟨la, na, ca, rfl⟩ := a3.sliceB
  obtain ⟨lb, nb, cb, rfl⟩ := b3.sliceB
  have hS0 : w.drew.cell? ⟨gx, ox, none⟩ = some (.bool (decide (x < 0))) ∧ w.drew.cell? ⟨gx, ox + 1, none⟩ = some (.slice la na ca) ∧ w.drew.cell? ⟨gy, oy, none⟩ = some (.bool (decide (y < 0))) ∧ w.drew.cell? ⟨gy, oy + 1, none⟩ = some (.slice lb nb cb) := ⟨a1, a2, b1, b2⟩
  generalize decide (x < 0) = X at *
  generalize decide (y < 0) = Y at *
  have HNX := Hid.mk hnx
  have HNY := Hid.mk hny
  clear a3 a4 a5 b3 b4 b5 hB hB' hx1 hx2 hy1 hy2 hcs hnx hny
  go_enter Tryz.func94, Tryz.ntmps94
  go_wp2_with fail
  go_region_held3 (fun w' => w'.cell? ⟨gx, ox, none⟩ = some (.bool X) ∧ w'.cell? ⟨gx, ox + 1, none⟩ = some (.slice la na ca) ∧ w'.cell? ⟨gy, oy, none⟩ = some (.bool Y) ∧ w'.cell? ⟨gy, oy + 1, none⟩ = some (.slice lb nb cb)) (first | exact hS0 | exact hS1 | exact hS2) (first
    | (go_at_call 144; with_reducible refine HTW.out.mono ?_; rintro e w1 ⟨v', zs, rfl, z1, z3, z2, z4, hb1⟩
       have hS1 : w1.cell? ⟨gx, ox, none⟩ = some (.bool X) ∧ w1.cell? ⟨gx, ox + 1, none⟩ = some (.slice la na ca) ∧ w1.cell? ⟨gy, oy, none⟩ = some (.bool Y) ∧ w1.cell? ⟨gy, oy + 1, none⟩ = some (.slice lb nb cb) := ⟨cell_kept hb1 hS0.1, cell_kept hb1 hS0.2.1, cell_kept hb1 hS0.2.2.1, cell_kept hb1 hS0.2.2.2⟩
       have HG := Hid.mk (HGV.out (!(X == Y)) v' zs w1 hb1 HFL.out z1 z2 z3)
       have HB1 := Hid.mk hb1
       clear z1 z2 z3 z4 hb1)
    | (go_at_call 97; with_reducible refine HG.out.mono ?_; rintro e w2 ⟨rfl, hO⟩
       have hS2 : w2.cell? ⟨gx, ox, none⟩ = some (.bool X) ∧ w2.cell? ⟨gx, ox + 1, none⟩ = some (.slice la na ca) ∧ w2.cell? ⟨gy, oy, none⟩ = some (.bool Y) ∧ w2.cell? ⟨gy, oy + 1, none⟩ = some (.slice lb nb cb) := ⟨cell_tch hS1.1 hO.1 (by simpa using HNX.out), cell_tch hS1.2.1 hO.1 (by simpa using HNX.out), cell_tch hS1.2.2.1 hO.1 (by simpa using HNY.out), cell_tch hS1.2.2.2 hO.1 (by simpa using HNY.out)⟩
       have HO := Hid.mk hO
       clear hO))
  go_wp2_with fail
  go_ret
  exact ⟨rfl, HO.out.pre (bl2 (Ww.drBw1 w) HB1.out)⟩
end Ww
end Go.Proofs.YtjgliinpaadbnaaGreatDoor
namespace Go.Proofs.YtjgliinpaadbnaaGreatDoor
open Go.ChangeShapes Go.WideShapes Go.ChangeAt Go.RowKit Go.Sort
namespace Ww
open Wm Sm
open Bw (Tch bl2 cell_kept)
def rzC : List Value := [.bool false, .slice none 0 0, .bool false, .slice none 0 0]
theorem rz_new (w : World) : BlkAt (w.alloc (.cells #[.bool false, .slice none 0 0, .bool false, .slice none 0 0] 87)) w.heap.size rzC 87 := heap_alloc_new w _
theorem rz_rat : RatV rzC := ⟨_, _, _, _, _, _, _, _, rfl⟩
theorem rzB (w : World) : Below w.heap.size w (w.alloc (.cells #[.bool false, .slice none 0 0, .bool false, .slice none 0 0] 87)) := (Below.refl _ _).alloc (Nat.le_refl _) _
theorem RatAt.lt {w : World} {g : Nat} {a b : Int} (h : RatAt w g a b) : g < w.heap.size := by
  obtain ⟨_, _, _, _, hB, _⟩ := h
  exact hB.lt
theorem low_one (p : Int) : numL p 1 = p ∧ denL p 1 = 1 := low_of_cop (by simp)
set_option maxHeartbeats 8000000 in
set_option maxRecDepth 100000 in
theorem rset_z (g : Nat) (cs : List Value) (p : Int) (w : World) (hB : BlkAt w g cs 87) (hV : RatV cs) (hp1 : -4611686018427387903 ≤ p) (hp2 : p ≤ 4611686018427387903) :
    Calls Tryz.prog 49 #[.pointer (some ⟨g, 0, none⟩), .int .i64 p] w fun e w' => e = .returned (.pointer (some ⟨g, 0, none⟩)) ∧ RatAt w' g p 1 ∧ Tch [g] w w' := by
  have HN1 := Hid.mk (newInt_z p w hp1 hp2)
  have HN2 := Hid.mk (fun W => newInt_z 1 W (by omega) (by omega))
  have hS := (fun ga gb W h1 h2 h3 => setFrac_pos g cs ga 0 gb 0 p 1 W h1 hV h2 h3 (by omega) hp1 hp2 (by omega))
  simp only [(low_one p).1, (low_one p).2] at hS
  have HS := Hid.mk hS
  have HB := Hid.mk hB
  clear hB hV hp1 hp2 hS
  go_enter Tryz.func49, Tryz.ntmps49
  go_wp2_with fail
  with_reducible refine HN1.out.mono ?_
  rintro e w1 ⟨rfl, hz1, -, hb1⟩
  have HZ1 := Hid.mk hz1
  have HB1 := Hid.mk hb1
  clear hz1 hb1
  go_wp2_with fail
  with_reducible refine (HN2.out _).mono ?_
  rintro e w2 ⟨rfl, hz2, -, hb2⟩
  have HC := Hid.mk (HS.out w.heap.size w1.heap.size w2 (HB.out.kept (bl2 HB1.out hb2)) (HZ1.out.kept hb2) hz2)
  have HB2 := Hid.mk (bl2 HB1.out hb2)
  clear hz2 hb2 HS
  go_wp2_with fail
  with_reducible refine HC.out.mono ?_
  rintro e w3 ⟨rfl, hR, ht⟩
  have HR := Hid.mk hR
  have HT := Hid.mk ((Tch.of HB2.out).trans ht)
  clear hR ht
  go_wp2_with fail
  go_ret
  exact ⟨rfl, HR.out, HT.out⟩
set_option maxHeartbeats 4000000 in
theorem rnum_z (g : Nat) (w : World) :
    Calls Tryz.prog 57 #[.pointer (some ⟨g, 0, none⟩)] w fun e w' => e = .returned (.pointer (some ⟨g, 0, none⟩)) ∧ w' = w := by
  go_enter Tryz.func57, Tryz.ntmps57
  go_wp2
  go_ret
  exact ⟨rfl, rfl⟩
set_option maxHeartbeats 8000000 in
set_option maxRecDepth 100000 in
theorem rdenom_z (g : Nat) (a b : Int) (w : World) (h : RatAt w g a b) (hb : 0 < b) (hb2 : b ≤ 4611686018427387903) :
    Calls Tryz.prog 91 #[.pointer (some ⟨g, 0, none⟩)] w fun e w' => e = .returned (.pointer (some ⟨w.heap.size, 0, none⟩)) ∧ ZAt w' w.heap.size 0 b ∧ Below w.heap.size w w' := by
  have hZ := zvB w
  have hl := h.lt
  have HD := Hid.mk (den_z g a b _ (h.kept hZ) (by omega))
  have HS := Hid.mk (set_z w.heap.size zvC _ g 2 b _ (h.kept hZ).den (zv_new w) zv_int (by omega) (by omega) hb2)
  have HZ := Hid.mk hZ
  clear h hb hb2 hZ hl
  go_enter Tryz.func91, Tryz.ntmps91
  go_wp2_with fail
  with_reducible refine HD.out.mono ?_
  rintro e w1 ⟨rfl, hw1⟩
  obtain rfl := hw1.symm
  go_wp2_with fail
  with_reducible refine HS.out.mono ?_
  rintro e w2 ⟨rfl, hO⟩
  have HO := Hid.mk hO
  clear hO
  go_wp2_with fail
  go_ret
  exact ⟨rfl, (HO.out.int zv_int).1, HO.out.below HZ.out (Nat.le_refl _)⟩
end Ww
end Go.Proofs.YtjgliinpaadbnaaGreatDoor
