/- What omnibusbig's add answers: the words of the sum. -/
import Derived.WalkKit
import Derived.Test.YtemohjamcdkcmaaGreatDoorC1
import Derived.Laws.BitsAllLaws
namespace Go.Proofs.YtemohjamcdkcmaaGreatDoor.Wm

def valW : List Nat → Nat
  | [] => 0
  | x :: xs => x + 4294967296 * valW xs
def okW (xs : List Nat) : Prop := ∀ x ∈ xs, x < 4294967296
def trimW (xs : List Nat) : Prop := xs = [] ∨ xs.getD (xs.length - 1) 0 ≠ 0

theorem valW_append (a b : List Nat) : valW (a ++ b) = valW a + 2 ^ (32 * a.length) * valW b := by
  induction a with
  | nil => simp [valW]
  | cons x a ih =>
    rw [List.cons_append, valW, ih, valW, List.length_cons, Nat.mul_add, Nat.mul_add, Nat.pow_add, Nat.mul_one]
    have e : (2 : Nat) ^ 32 = 4294967296 := rfl
    rw [e]
    have : 4294967296 * (2 ^ (32 * a.length) * valW b) = 2 ^ (32 * a.length) * 4294967296 * valW b := by
      rw [← Nat.mul_assoc, Nat.mul_comm 4294967296]
    omega
theorem valW_snoc (a : List Nat) (x : Nat) : valW (a ++ [x]) = valW a + 2 ^ (32 * a.length) * x := by
  rw [valW_append]; simp [valW]
theorem valW_lt (a : List Nat) (h : okW a) : valW a < 2 ^ (32 * a.length) := by
  induction a with
  | nil => simp [valW]
  | cons x a ih =>
    have h1 := ih (fun y hy => h y (List.mem_cons_of_mem _ hy))
    have h2 := h x (List.mem_cons_self)
    rw [valW, List.length_cons, Nat.mul_add, Nat.pow_add]
    have e : (2 : Nat) ^ (32 * 1) = 4294967296 := rfl
    rw [e]
    omega
theorem okW_append {a b : List Nat} (ha : okW a) (hb : okW b) : okW (a ++ b) := by
  intro x hx
  rcases List.mem_append.1 hx with h | h
  · exact ha x h
  · exact hb x h
theorem okW_take {a : List Nat} (h : okW a) (k : Nat) : okW (a.take k) := fun x hx => h x (List.mem_of_mem_take hx)
theorem okW_getD {a : List Nat} (h : okW a) (i : Nat) : a.getD i 0 < 4294967296 := by
  by_cases hi : i < a.length
  · simp only [List.getD, List.getElem?_eq_getElem hi, Option.getD_some]; exact h _ (List.getElem_mem _)
  · simp [List.getD, List.getElem?_eq_none (Nat.le_of_not_lt hi)]
theorem take_snocN (l : List Nat) (k : Nat) (h : k < l.length) : l.take (k + 1) = l.take k ++ [l.getD k 0] := by
  rw [List.take_succ_eq_append_getElem h]; simp [List.getD, h]
theorem take_step (a : List Nat) (k : Nat) (h : k < a.length) (h0 : a.getD k 0 = 0) : valW (a.take (k + 1)) = valW (a.take k) := by
  rw [take_snocN a k h, valW_snoc, h0]; simp
theorem trimW_len {a : List Nat} (h : trimW a) (n : Nat) (hv : valW a < 2 ^ (32 * n)) : a.length ≤ n := by
  rcases h with rfl | h
  · simp
  · rcases Nat.lt_or_ge n a.length with hlt | hge
    · exfalso
      have hk : a.length - 1 < a.length := by omega
      have e : a = a.take (a.length - 1) ++ [a.getD (a.length - 1) 0] := by
        rw [← take_snocN a (a.length - 1) hk, List.take_of_length_le (by omega)]
      have hv2 : valW a = valW (a.take (a.length - 1)) + 2 ^ (32 * (a.length - 1)) * a.getD (a.length - 1) 0 := by
        have := valW_snoc (a.take (a.length - 1)) (a.getD (a.length - 1) 0)
        rw [← e, List.length_take, Nat.min_eq_left (by omega)] at this
        exact this
      have h1 : 1 ≤ a.getD (a.length - 1) 0 := by omega
      have h2 : 2 ^ (32 * n) ≤ 2 ^ (32 * (a.length - 1)) := Nat.pow_le_pow_right (by omega) (by omega)
      have h3 : 2 ^ (32 * (a.length - 1)) * 1 ≤ 2 ^ (32 * (a.length - 1)) * a.getD (a.length - 1) 0 := Nat.mul_le_mul_left _ h1
      omega
    · exact hge
end Go.Proofs.YtemohjamcdkcmaaGreatDoor.Wm
namespace Go.Proofs.YtemohjamcdkcmaaGreatDoor
open Go.ChangeShapes Go.WideShapes Go.ChangeAt Go.RowKit
namespace Ww
open Wm

theorem Hid.mk {p : Prop} (h : p) : Hid p := h
def IsW (w : World) (v : Value) (xs : List Nat) : Prop :=
  ∃ a c, v = .slice a xs.length c ∧ xs.length ≤ c ∧ c ≤ maxLen ∧ (a = none → xs.length = 0) ∧ (∀ x, a = some x → ∀ i, i < xs.length → w.cell? (x.add i) = some (.int .u32 (xs.getD i 0))) ∧ okW xs

theorem IsW.below {w w' : World} {v : Value} {xs : List Nat} (h : IsW w v xs) (hb : Below w.heap.size w w') : IsW w' v xs := by
  obtain ⟨a, c, h1, h2, h3, h4, h5, h6⟩ := h
  exact ⟨a, c, h1, h2, h3, h4, fun x hx i hi => Bw.cell_kept hb (h5 x hx i hi), h6⟩
theorem isW_nil (w : World) : IsW w (.slice none 0 0) [] := ⟨none, 0, rfl, Nat.le_refl _, Nat.zero_le _, (fun _ => rfl), (fun x hx => by cases hx), (fun x hx => by cases hx)⟩

theorem isW_take {w : World} {a : Option Addr} {n c k : Nat} {xs : List Nat} (hk : k ≤ xs.length) (hn : n = xs.length) (hc : n ≤ c) (hm : c ≤ maxLen) (hnil : a = none → xs.length = 0)
    (hcells : ∀ x, a = some x → ∀ i, i < xs.length → w.cell? (x.add i) = some (.int .u32 (xs.getD i 0))) (hok : okW xs) : IsW w (.slice a k c) (xs.take k) := by
  have hlen : (xs.take k).length = k := by rw [List.length_take]; omega
  refine ⟨a, c, by rw [hlen], by omega, hm, fun h => by have := hnil h; omega, fun x hx i hi => ?_, okW_take hok k⟩
  rw [hlen] at hi
  rw [hcells x hx i (by omega)]
  simp [List.getD, hi]
theorem trim_at {xs : List Nat} {q z : Nat} (hq : q < xs.length) (hz : xs.getD q 0 = z) (h0 : ¬ z = 0) : (xs.take (q + 1)).getD ((xs.take (q + 1)).length - 1) 0 ≠ 0 := by
  have hlen : (xs.take (q + 1)).length = q + 1 := by rw [List.length_take]; omega
  rw [hlen, Nat.add_sub_cancel, show (xs.take (q + 1)).getD q 0 = xs.getD q 0 by simp [List.getD]]
  omega

set_option maxHeartbeats 2000000 in
theorem trim_any (v : Value) (xs : List Nat) (w : World) (h : IsW w v xs) (hl : xs.length ≤ 100000) :
    Calls Tryz.prog 130 #[v] w fun e w' => ∃ v' ys, e = .returned v' ∧ IsW w v' ys ∧ valW ys = valW xs ∧ trimW ys ∧ ys.length ≤ xs.length ∧ w' = w := by
  obtain ⟨a, c, rfl, hc, hm, hnil, hcells, hok⟩ := h
  have HC := Hid.mk hcells
  have HN := Hid.mk hnil
  have HO := Hid.mk hok
  have HM := Hid.mk hm
  obtain ⟨n, hn⟩ : ∃ n, n = xs.length := ⟨_, rfl⟩
  rw [← hn] at hl hc ⊢
  have HL := Hid.mk hn
  have hc' : (n : Int) ≤ (c : Int) := by omega
  have hcm : (c : Int) ≤ 9223372036854775807 := by unfold maxLen at hm; omega
  clear hcells hnil hok hn hm
  go_enter Tryz.func130, Tryz.ntmps130
  go_wp2_with fail
  go_loop [3] (fun i => ∃ k : Nat, k ≤ n ∧ i = .int .i64 k ∧ valW (xs.take k) = valW xs) (fun i => (intOf i).toNat)
  case atStart => exact ⟨n, Nat.le_refl _, rfl, by rw [List.take_of_length_le (by have := HL.out; omega)]⟩
  case round =>
    obtain ⟨k, hk, rfl, hv⟩ := hrel
    have HV := Hid.mk hv
    clear hv
    by_cases h0 : k = 0
    · subst h0
      go_wp2_with fail
      go_ret
      exact ⟨_, rfl, xs.take 0, isW_take (by have := HL.out; omega) HL.out hc HM.out HN.out HC.out HO.out, HV.out, Or.inl rfl, by simp, rfl⟩
    · obtain ⟨q, rfl⟩ : ∃ q, k = q + 1 := ⟨k - 1, by omega⟩
      cases a with
      | none => exact absurd (HN.out rfl) (by have := HL.out; omega)
      | some x =>
        have hcell := HC.out x rfl q (by have := HL.out; omega)
        have hq : (q : Int) < (n : Int) := by omega
        by_cases hz : xs.getD q 0 = 0
        · rw [hz] at hcell
          have HZ := Hid.mk hz
          clear hz h0
          go_wp2_with fail
          go_round
          case rel => exact ⟨q, by omega, by go_num, by rw [← take_step xs q (by have := HL.out; omega) HZ.out]; exact HV.out⟩
          case measure => simp [intOf]
        · generalize hzz : xs.getD q 0 = z at *
          have hz' : ((z : Int) == 0) = false := by simp; omega
          have HZ := Hid.mk hzz
          have HZ0 := Hid.mk hz
          clear hzz hz h0
          go_wp2_with fail
          go_ret
          exact ⟨_, rfl, xs.take (q + 1), isW_take (by have := HL.out; omega) HL.out hc HM.out HN.out HC.out HO.out, HV.out, Or.inr (trim_at (by have := HL.out; omega) HZ.out HZ0.out), by rw [List.length_take]; omega, rfl⟩

theorem ownsW {w : World} {g n : Nat} {xs : List Nat} {cur : Array Value} {t : TypeId} {fz : Nat × Nat} (hh : w.heap[g]? = some (.cells cur t fz)) (hn : xs.length = n) (hm : n ≤ maxLen)
    (hc : ∀ i, i < n → cur[i]? = some (.int .u32 (xs.getD i 0))) (hok : okW xs) : IsW w (.slice (some ⟨g, 0, none⟩) n n) xs := by
  subst hn
  refine ⟨_, _, rfl, Nat.le_refl _, hm, (fun h => by cases h), fun x hx i hi => ?_, hok⟩
  cases hx
  rw [Addr.add_lit, Nat.zero_add, cell_of_row w g i cur t fz hh]
  exact hc i hi

set_option maxHeartbeats 1000000 in
theorem words_any (x : Nat) (w : World) (h : x < 2 ^ 63) :
    Calls Tryz.prog 129 #[.int .u64 x] w fun e w' => ∃ v' ys, e = .returned v' ∧ IsW w' v' ys ∧ valW ys = x ∧ trimW ys ∧ ys.length ≤ 2 ∧ Below w.heap.size w w' := by
  have h' : (x : Int) < 9223372036854775808 := by omega
  have H := Hid.mk h
  clear h
  go_enter Tryz.func129, Tryz.ntmps129
  go_wp2_with fail
  have hok : okW [x % 4294967296, x / 4294967296] := by
    intro y hy
    have := H.out
    simp at hy
    rcases hy with rfl | rfl <;> omega
  have hW : IsW (w.alloc (Obj.cells #[Value.int IntKind.u32 ((x : Int) % 4294967296), Value.int IntKind.u32 ((x : Int) / 4294967296)] 141)) (.slice (some ⟨w.heap.size, 0, none⟩) 2 2) [x % 4294967296, x / 4294967296] := by
    refine ownsW (heap_alloc_new w _) rfl (by unfold maxLen; omega) (fun i hi => ?_) hok
    match i, hi with
    | 0, _ => simp
    | 1, _ => simp
  refine (trim_any _ _ _ hW (by show 2 ≤ 100000; omega)).mono ?_
  rintro e w1 ⟨v', ys, rfl, hy, hv, ht, hl, rfl⟩
  clear hW hok
  go_wp2_with fail
  go_ret
  exact ⟨_, ys, rfl, hy, by rw [hv]; simp [valW]; omega, ht, hl, (Below.refl _ _).alloc (Nat.le_refl _) _⟩
end Ww
end Go.Proofs.YtemohjamcdkcmaaGreatDoor
namespace Go.Proofs.YtemohjamcdkcmaaGreatDoor
open Go.ChangeShapes Go.WideShapes Go.ChangeAt Go.RowKit
namespace Ww
open Wm

theorem info_u32 : (Tryz.prog.info? 141).map (fun i => (i.zero, i.size, i.bytes)) = some (some (.int .u32 0), 1, 4) := by kernel_rfl
def cellsW (l : List Nat) : List Value := l.map fun x : Nat => Value.int .u32 (x : Int)
theorem cellsW_rep (n : Nat) : cellsW ([] ++ List.replicate (n - 0) 0) = List.replicate n (Value.int .u32 0) := by simp [cellsW]
theorem cellsW_at (zs : List Nat) (n k : Nat) (h : zs.length = k) (hk : k < n) : (cellsW (zs ++ List.replicate (n - k) 0))[k]? = some (.int .u32 0) := by
  unfold cellsW
  rw [List.getElem?_map, List.getElem?_append_right (by omega), h, Nat.sub_self, List.getElem?_replicate, if_pos (by omega)]
  rfl
theorem cellsW_set (zs : List Nat) (n k v : Nat) (h : zs.length = k) (hk : k < n) : (cellsW (zs ++ List.replicate (n - k) 0)).set k (.int .u32 (v : Int)) = cellsW ((zs ++ [v]) ++ List.replicate (n - (k + 1)) 0) := by
  unfold cellsW
  have e : n - k = (n - (k + 1)) + 1 := by omega
  rw [e, List.replicate_succ, List.map_append, List.map_cons, List.set_append_right _ _ (by simp; omega)]
  simp [h]
theorem okW_one {x : Nat} (h : x < 4294967296) : okW [x] := by intro y hy; simp at hy; omega
theorem isW_own {w : World} {base g n : Nat} {xs : List Nat} (h : w.ownsRow base 141 1 (.slice (some ⟨g, 0, none⟩) n n) n (cellsW xs)) (hn : xs.length = n) (hm : n ≤ maxLen) (hok : okW xs) :
    IsW w (.slice (some ⟨g, 0, none⟩) n n) xs := by
  subst hn
  refine ⟨_, _, rfl, Nat.le_refl _, hm, (fun h => by cases h), fun x hx i hi => ?_, hok⟩
  cases hx
  rw [Addr.add_lit, Nat.zero_add, h.cellAt i (by omega)]
  simp [cellsW, hi]
theorem take_more (ys : List Nat) (k : Nat) (h : ys.length ≤ k) : valW (ys.take (k + 1)) = valW (ys.take k) := by
  rw [List.take_of_length_le (by omega), List.take_of_length_le (by omega)]
theorem pow32 (k : Nat) : 2 ^ (32 * (k + 1)) = 2 ^ (32 * k) * 4294967296 := by rw [Nat.mul_add, Nat.pow_add]
theorem carry_step (V P t : Nat) : V + P * (t % 4294967296) + P * 4294967296 * (t / 4294967296) = V + P * t := by
  have h := Nat.mod_add_div t 4294967296
  rw [Nat.mul_assoc, Nat.add_assoc, ← Nat.mul_add, h]
theorem add_step {zs xs ys : List Nat} {k cc xk yk : Nat} (hv : valW zs + 2 ^ (32 * k) * cc = valW (xs.take k) + valW (ys.take k)) (hz : zs.length = k) (hx : xk = xs.getD k 0) (hy : yk = ys.getD k 0) (h1 : k < xs.length) (h2 : k < ys.length) :
    valW (zs ++ [(cc + xk + yk) % 4294967296]) + 2 ^ (32 * (k + 1)) * ((cc + xk + yk) / 4294967296) = valW (xs.take (k + 1)) + valW (ys.take (k + 1)) := by
  rw [valW_snoc, hz, pow32, carry_step, take_snocN xs k h1, take_snocN ys k h2, valW_snoc, valW_snoc, List.length_take, List.length_take, Nat.min_eq_left (by omega), Nat.min_eq_left (by omega), ← hx, ← hy, Nat.mul_add, Nat.mul_add]
  omega
theorem add_step1 {zs xs ys : List Nat} {k cc xk : Nat} (hv : valW zs + 2 ^ (32 * k) * cc = valW (xs.take k) + valW (ys.take k)) (hz : zs.length = k) (hx : xk = xs.getD k 0) (h1 : k < xs.length) (h2 : ys.length ≤ k) :
    valW (zs ++ [(cc + xk) % 4294967296]) + 2 ^ (32 * (k + 1)) * ((cc + xk) / 4294967296) = valW (xs.take (k + 1)) + valW (ys.take (k + 1)) := by
  rw [valW_snoc, hz, pow32, carry_step, take_snocN xs k h1, take_more ys k h2, valW_snoc, List.length_take, Nat.min_eq_left (by omega), ← hx, Nat.mul_add]
  omega

end Ww
end Go.Proofs.YtemohjamcdkcmaaGreatDoor
namespace Go.Proofs.YtemohjamcdkcmaaGreatDoor
open Go.ChangeShapes Go.WideShapes Go.ChangeAt Go.RowKit
namespace Ww
open Wm

theorem valW_set (rs : List Nat) : ∀ (p v : Nat), p < rs.length → valW (rs.set p v) + 2 ^ (32 * p) * rs.getD p 0 = valW rs + 2 ^ (32 * p) * v := by
  induction rs with
  | nil => intro p v h; simp at h
  | cons x rs ih =>
    intro p v h
    cases p with
    | zero => simp [valW]; omega
    | succ p =>
      have := ih p v (by simpa using h)
      rw [List.set_cons_succ, valW, valW, pow32]
      have e : (x :: rs).getD (p + 1) 0 = rs.getD p 0 := by simp [List.getD]
      rw [e, Nat.mul_comm (2 ^ (32 * p)) 4294967296, Nat.mul_assoc, Nat.mul_assoc]
      have h2 : 4294967296 * (valW (rs.set p v) + 2 ^ (32 * p) * rs.getD p 0) = 4294967296 * (valW rs + 2 ^ (32 * p) * v) := by rw [this]
      rw [Nat.mul_add, Nat.mul_add] at h2
      omega
theorem okW_set {rs : List Nat} (h : okW rs) (p v : Nat) (hv : v < 4294967296) : okW (rs.set p v) := by
  intro x hx
  rcases List.mem_or_eq_of_mem_set hx with h1 | h1
  · exact h x h1
  · omega
theorem cellsW_setAt (rs : List Nat) (p v : Nat) : (cellsW rs).set p (.int .u32 (v : Int)) = cellsW (rs.set p v) := by
  unfold cellsW; rw [List.map_set]
theorem cellsW_get (rs : List Nat) (p : Nat) (h : p < rs.length) : (cellsW rs)[p]? = some (.int .u32 (rs.getD p 0)) := by
  unfold cellsW; simp [List.getD, h]
theorem set_zero {rs : List Nat} {k q v : Nat} (hz : ∀ p, q ≤ p → rs.getD p 0 = 0) (hk : k < q) : ∀ p, q ≤ p → (rs.set k v).getD p 0 = 0 := by
  intro p hp
  have := hz p hp
  simp only [List.getD, List.getElem?_set] at this ⊢
  rw [if_neg (by omega)]; exact this
theorem valW_zeros (n : Nat) : valW (List.replicate n 0) = 0 := by
  induction n with
  | zero => rfl
  | succ n ih => rw [List.replicate_succ, valW, ih]
theorem mul_step {rs ys : List Nat} {k j cc xk yk A : Nat} (hv : valW rs + 2 ^ (32 * (k + j)) * cc = A + 2 ^ (32 * k) * (xk * valW (ys.take j))) (hy : yk = ys.getD j 0) (hj : j < ys.length) (hp : k + j < rs.length) :
    valW (rs.set (k + j) ((cc + (xk * yk + rs.getD (k + j) 0)) % 4294967296)) + 2 ^ (32 * (k + (j + 1))) * ((cc + (xk * yk + rs.getD (k + j) 0)) / 4294967296) = A + 2 ^ (32 * k) * (xk * valW (ys.take (j + 1))) := by
  have h1 := valW_set rs (k + j) ((cc + (xk * yk + rs.getD (k + j) 0)) % 4294967296) hp
  have e1 : 2 ^ (32 * (k + (j + 1))) = 2 ^ (32 * (k + j)) * 4294967296 := by rw [← Nat.add_assoc, pow32]
  have e2 : 2 ^ (32 * k) * (xk * valW (ys.take (j + 1))) = 2 ^ (32 * k) * (xk * valW (ys.take j)) + 2 ^ (32 * (k + j)) * (xk * yk) := by
    rw [take_snocN ys j hj, valW_snoc, List.length_take, Nat.min_eq_left (by omega), ← hy, Nat.mul_add, Nat.mul_add, Nat.mul_left_comm xk (2 ^ (32 * j)) yk, ← Nat.mul_assoc (2 ^ (32 * k)) (2 ^ (32 * j)), ← Nat.pow_add, ← Nat.mul_add 32]
  rw [e1, e2]
  generalize rs.getD (k + j) 0 = o at *
  generalize valW (rs.set (k + j) ((cc + (xk * yk + o)) % 4294967296)) = S at *
  generalize 2 ^ (32 * (k + j)) = P at *
  generalize 2 ^ (32 * k) * (xk * valW (ys.take j)) = Q at *
  have h2 := carry_step (valW rs) P (cc + (xk * yk + o))
  have e3 : P * (cc + (xk * yk + o)) = P * cc + P * (xk * yk) + P * o := by
    rw [Nat.mul_add, Nat.mul_add, Nat.add_assoc]
  rw [e3] at h2
  generalize P * 4294967296 * ((cc + (xk * yk + o)) / 4294967296) = R1 at *
  generalize P * ((cc + (xk * yk + o)) % 4294967296) = R2 at *
  generalize P * (xk * yk) = R3 at *
  generalize P * cc = R4 at *
  generalize P * o = R5 at *
  omega
theorem mul_end {rs xs ys : List Nat} {k q cc xk : Nat} (hv : valW rs + 2 ^ (32 * (k + q)) * cc = valW (xs.take k) * valW ys + 2 ^ (32 * k) * (xk * valW (ys.take q))) (hq : q = ys.length) (hx : xk = xs.getD k 0) (hk : k < xs.length) (hp : k + q < rs.length) (hz : rs.getD (k + q) 0 = 0) :
    valW (rs.set (k + q) cc) = valW (xs.take (k + 1)) * valW ys := by
  have h1 := valW_set rs (k + q) cc hp
  rw [hz, Nat.mul_zero, Nat.add_zero] at h1
  have e : ys.take q = ys := List.take_of_length_le (by omega)
  rw [h1, hv, e, take_snocN xs k hk, valW_snoc, List.length_take, Nat.min_eq_left (by omega), ← hx, Nat.add_mul, Nat.mul_assoc]

set_option maxHeartbeats 1000000 in
theorem mul_nil (va vb : Value) (xs ys : List Nat) (w : World) (ha : IsW w va xs) (hb : IsW w vb ys) (h : xs.length = 0 ∨ ys.length = 0) (hl : ys.length ≤ 10000) :
    Calls Tryz.prog 128 #[va, vb] w fun e w' => e = .returned (.slice none 0 0) ∧ w' = w := by
  obtain ⟨a, ca, rfl, -, -, -, -, -⟩ := ha
  obtain ⟨b, cb, rfl, -, -, -, -, -⟩ := hb
  generalize xs.length = n at *
  generalize ys.length = m at *
  by_cases h0 : n = 0
  · subst h0
    go_enter Tryz.func128, Tryz.ntmps128
    go_wp2_with fail
    go_ret
    exact ⟨rfl, rfl⟩
  · have hm : m = 0 := by omega
    subst hm
    have h0' : ((n : Int) == 0) = false := by simp; omega
    clear h
    go_enter Tryz.func128, Tryz.ntmps128
    go_wp2_with fail
    go_ret
    exact ⟨rfl, rfl⟩

set_option maxHeartbeats 8000000 in
theorem mul_pos (va vb : Value) (xs ys : List Nat) (w : World) (ha : IsW w va xs) (hb : IsW w vb ys) (hla : xs.length ≤ 10000) (hlb : ys.length ≤ 10000) (h0 : 0 < xs.length) (h1 : 0 < ys.length) :
    Calls Tryz.prog 128 #[va, vb] w fun e w' => ∃ v' rs, e = .returned v' ∧ IsW w' v' rs ∧ valW rs = valW xs * valW ys ∧ trimW rs ∧ rs.length ≤ xs.length + ys.length ∧ Below w.heap.size w w' := by
  obtain ⟨a, ca, rfl, hca, hma, hna, hcea, hoa⟩ := ha
  obtain ⟨b, cb, rfl, hcb, hmb, hnb, hceb, hob⟩ := hb
  have HCA := Hid.mk hcea
  have HCB := Hid.mk hceb
  have HNA := Hid.mk hna
  have HNB := Hid.mk hnb
  have HOA := Hid.mk hoa
  have HOB := Hid.mk hob
  obtain ⟨nA, hnA⟩ : ∃ n, n = xs.length := ⟨_, rfl⟩
  obtain ⟨nB, hnB⟩ : ∃ n, n = ys.length := ⟨_, rfl⟩
  rw [← hnA] at hla h0 ⊢
  rw [← hnB] at hlb h1 ⊢
  have HLA := Hid.mk hnA
  have HLB := Hid.mk hnB
  have g0 : ((nA : Int) == 0) = false := by simp; omega
  have g1 : ((nB : Int) == 0) = false := by simp; omega
  obtain ⟨i0, hi, hz0, hz1, hz2⟩ := info_parts info_u32
  clear hcea hceb hna hnb hoa hob hnA hnB hca hcb hma hmb
  go_enter Tryz.func128, Tryz.ntmps128
  go_wp2_with (at_make; refine wpList_make_full _ rfl (.tmp 21) (.tmp 21) 108 rfl w.heap.size 141 i0 (.int .u32 0) 1 Tryz.underlying108 hi hz0 hz1 .i64 .i64 _ _ (nA + nB) rfl rfl (by omega) (by omega) (by rw [hz2]; omega) (by unfold maxLen; omega) (Nat.le_refl _) ?_; intro w2 hown hgrow)
  have hown0 : w2.ownsRow w.heap.size 141 1 (.slice (some ⟨w.heap.size, 0, none⟩) (nA + nB) (nA + nB)) (nA + nB) (cellsW (List.replicate (nA + nB) 0)) := by
    have := cellsW_rep (nA + nB)
    rw [List.nil_append, Nat.sub_zero] at this
    rw [this, ← toList_madeCells_one]
    rw [Nat.mul_one] at hown
    exact hown
  have hb2 : Below w.heap.size w w2 := Below.grown (Below.refl _ _) hgrow (Nat.le_refl _) (fun q hq => by cases hq)
  clear hown hgrow hi hz0 hz1 hz2 g0 g1
  go_wp2_with fail
  go_loopw [6] (fun i wr => ∃ (k : Nat) (rs : List Nat), k ≤ nA ∧ i = .int .i64 k ∧ rs.length = nA + nB ∧ okW rs ∧ (∀ p, k + nB ≤ p → rs.getD p 0 = 0) ∧ valW rs = valW (xs.take k) * valW ys ∧
      wr.ownsRow w.heap.size 141 1 (.slice (some ⟨w.heap.size, 0, none⟩) (nA + nB) (nA + nB)) (nA + nB) (cellsW rs) ∧ Below w.heap.size w wr) (fun i _ => nA - (intOf i).toNat)
  case atStart => exact ⟨0, List.replicate (nA + nB) 0, Nat.zero_le _, rfl, by simp, (fun x hx => by rw [List.eq_of_mem_replicate hx]; omega), (fun p _ => by simp [List.getD, List.getElem?_replicate]; split <;> rfl), by rw [valW_zeros]; simp [valW], hown0, hb2⟩
  case round =>
    clear hown0 hb2
    obtain ⟨k, rs, hk, rfl, hrl, hro, hrz, hrv, hown, hbel⟩ := hrel
    have HRL := Hid.mk hrl
    have HRO := Hid.mk hro
    have HRZ := Hid.mk hrz
    have HRV := Hid.mk hrv
    clear hrl hro hrz hrv
    by_cases hlt : k < nA
    · cases a with
      | none => exact absurd (HNA.out rfl) (by have := HLA.out; omega)
      | some p =>
        cases b with
        | none => exact absurd (HNB.out rfl) (by have := HLB.out; omega)
        | some q =>
          have hxk := okW_getD HOA.out k
          obtain ⟨xk, hxE⟩ : ∃ xk, xk = xs.getD k 0 := ⟨_, rfl⟩
          rw [← hxE] at hxk
          have HXE := Hid.mk hxE
          have hlt' : (k : Int) < (nA : Int) := by omega
          clear hxE
          go_wp2_with fail
          go_loopw [7, 8] (fun c j wq => ∃ (jj cc : Nat) (rq : List Nat), jj ≤ nB ∧ j = .int .i64 jj ∧ c = .int .u64 cc ∧ cc < 4294967296 ∧ rq.length = nA + nB ∧ okW rq ∧ (∀ p, k + nB ≤ p → rq.getD p 0 = 0) ∧
              valW rq + 2 ^ (32 * (k + jj)) * cc = valW (xs.take k) * valW ys + 2 ^ (32 * k) * (xk * valW (ys.take jj)) ∧
              wq.ownsRow w.heap.size 141 1 (.slice (some ⟨w.heap.size, 0, none⟩) (nA + nB) (nA + nB)) (nA + nB) (cellsW rq) ∧ Below w.heap.size w wq) (fun _ j _ => nB - (intOf j).toNat)
          case atStart => exact ⟨0, 0, rs, Nat.zero_le _, rfl, rfl, by omega, HRL.out, HRO.out, HRZ.out, by rw [HRV.out]; simp [valW], hown, hbel⟩
          case round =>
            clear hown hbel HRL HRO HRZ HRV
            obtain ⟨j, cc, rq, hj, rfl, rfl, hcc, hrl, hro, hrz, hrv, hown, hbel⟩ := hrel
            have HRL := Hid.mk hrl
            have HRO := Hid.mk hro
            have HRZ := Hid.mk hrz
            have HRV := Hid.mk hrv
            clear hrl hro hrz hrv
            by_cases hjl : j < nB
            · have hcx := Bw.cell_kept hbel (HCA.out p rfl k (by have := HLA.out; omega))
              have hcy := Bw.cell_kept hbel (HCB.out q rfl j (by have := HLB.out; omega))
              rw [← HXE.out] at hcx
              have hyk := okW_getD HOB.out j
              obtain ⟨yk, hyE⟩ : ∃ yk, yk = ys.getD j 0 := ⟨_, rfl⟩
              rw [← hyE] at hcy hyk
              have HYE := Hid.mk hyE
              have hc3 := hown.cellAt (k + j) (by omega)
              have hf3 := hown.frozenAt (k + j)
              rw [cellsW_get rq (k + j) (by have := HRL.out; omega)] at hc3
              have hok := okW_getD HRO.out (k + j)
              obtain ⟨o, hoE⟩ : ∃ o, o = rq.getD (k + j) 0 := ⟨_, rfl⟩
              rw [← hoE] at hc3 hok
              have HOE := Hid.mk hoE
              have hpr : xk * yk ≤ 18446744065119617025 := Nat.le_trans (Nat.mul_le_mul (show xk ≤ 4294967295 by omega) (show yk ≤ 4294967295 by omega)) (by omega)
              have hpr' : (xk : Int) * (yk : Int) ≤ 18446744065119617025 := by rw [← Int.natCast_mul]; omega
              have hpr0 : 0 ≤ (xk : Int) * (yk : Int) := Int.mul_nonneg (by omega) (by omega)
              have hcc' : (cc : Int) ≤ 4294967295 := by omega
              have ho' : (o : Int) ≤ 4294967295 := by omega
              have hx' : (xk : Int) ≤ 4294967295 := by omega
              have hy' : (yk : Int) ≤ 4294967295 := by omega
              have hjl' : (j : Int) < (nB : Int) := by omega
              have hst := hown.stored (k + j) (.int .u32 (((cc : Int) + ((xk : Int) * yk + o)) % 4294967296))
              have ecast : ((cc : Int) + ((xk : Int) * yk + o)) % 4294967296 = (((cc + (xk * yk + o)) % 4294967296 : Nat) : Int) := by rw [← Int.natCast_mul]; omega
              have ecast2 : ((cc : Int) + ((xk : Int) * yk + o)) / 4294967296 = (((cc + (xk * yk + o)) / 4294967296 : Nat) : Int) := by rw [← Int.natCast_mul]; omega
              rw [ecast, cellsW_setAt, ← ecast] at hst
              have hb4 := hbel.grown hst.2 hbel.size (fun q hq => by cases hq; exact Nat.le_refl _)
              have HST := Hid.mk hst.1
              have HB4 := Hid.mk hb4
              have HE2 := Hid.mk ecast2
              have hcn : (cc + (xk * yk + o)) / 4294967296 < 4294967296 := by omega
              have hmv := mul_step HRV.out HYE.out (by have := HLB.out; omega) (by have := HRL.out; omega)
              rw [← HOE.out] at hmv
              have HMV := Hid.mk hmv
              have HCN := Hid.mk hcn
              clear hyE hoE hst ecast ecast2 hb4 hcn hmv hown hpr
              go_wp2_with fail
              go_quiet (fail)
              go_wp2_with fail
              go_roundw
              case rel => exact ⟨j + 1, (cc + (xk * yk + o)) / 4294967296, rq.set (k + j) ((cc + (xk * yk + o)) % 4294967296), by omega, by go_num, (by rw [← HE2.out]), HCN.out, (by rw [List.length_set]; exact HRL.out), okW_set HRO.out _ _ (by omega), set_zero HRZ.out (by omega), HMV.out, HST.out, HB4.out.trans ⟨rfl, rfl, rfl, Nat.le_refl _, fun _ _ => rfl⟩⟩
              case measure => simp [intOf]; omega
            · have e : j = nB := by omega
              subst e
              have hc3 := hown.cellAt (k + j) (by omega)
              have hf3 := hown.frozenAt (k + j)
              rw [cellsW_get rq (k + j) (by have := HRL.out; omega), HRZ.out (k + j) (Nat.le_refl _)] at hc3
              have hst := hown.stored (k + j) (.int .u32 (cc : Int))
              rw [cellsW_setAt] at hst
              have hcc' : (cc : Int) ≤ 4294967295 := by omega
              have hb4 := hbel.grown hst.2 hbel.size (fun q hq => by cases hq; exact Nat.le_refl _)
              have HST := Hid.mk hst.1
              have HB4 := Hid.mk hb4
              have hme := mul_end HRV.out HLB.out HXE.out (by have := HLA.out; omega) (by have := HRL.out; omega) (HRZ.out (k + j) (Nat.le_refl _))
              have HME := Hid.mk hme
              clear hst hb4 hown hme
              go_wp2_with fail
              go_roundw
              case rel => exact ⟨k + 1, rq.set (k + j) cc, by omega, by go_num, (by rw [List.length_set]; exact HRL.out), okW_set HRO.out _ _ (by omega), set_zero (fun p hp => HRZ.out p (by omega)) (by omega), HME.out, HST.out, HB4.out⟩
              case measure => simp [intOf]; omega
    · have e : k = nA := by omega
      subst e
      have hfull : xs.take k = xs := List.take_of_length_le (by have := HLA.out; omega)
      have hrv := HRV.out
      rw [hfull] at hrv
      have HV := Hid.mk hrv
      have hW := isW_own hown HRL.out (by unfold maxLen; omega) HRO.out
      have HW := Hid.mk hW
      clear hrv hfull hW hown
      go_wp2_with fail
      refine (trim_any _ rs _ HW.out (by have := HRL.out; omega)).mono ?_
      rintro e w3 ⟨v', qs, rfl, hr1, hr2, hr3, hr4, rfl⟩
      have hr5 : valW qs = valW xs * valW ys := by rw [hr2]; exact HV.out
      have HR5 := Hid.mk hr5
      have hr6 : qs.length ≤ k + nB := by have := HRL.out; omega
      clear hr2 hr5 hr4
      go_wp2_with fail
      go_ret
      exact ⟨_, qs, rfl, hr1, HR5.out, hr3, hr6, hbel⟩

theorem mul_any (va vb : Value) (xs ys : List Nat) (w : World) (ha : IsW w va xs) (hb : IsW w vb ys) (hla : xs.length ≤ 10000) (hlb : ys.length ≤ 10000) :
    Calls Tryz.prog 128 #[va, vb] w fun e w' => ∃ v' rs, e = .returned v' ∧ IsW w' v' rs ∧ valW rs = valW xs * valW ys ∧ trimW rs ∧ rs.length ≤ xs.length + ys.length ∧ Below w.heap.size w w' := by
  by_cases h : xs.length = 0 ∨ ys.length = 0
  · refine (mul_nil va vb xs ys w ha hb h hlb).mono fun e w' ⟨he, hw⟩ => ⟨_, [], he, isW_nil _, ?_, Or.inl rfl, Nat.zero_le _, hw ▸ Below.refl _ _⟩
    rcases h with h | h
    · rw [List.eq_nil_of_length_eq_zero h]; simp [valW]
    · rw [List.eq_nil_of_length_eq_zero h]; simp [valW]
  · exact mul_pos va vb xs ys w ha hb hla hlb (by omega) (by omega)
end Ww
end Go.Proofs.YtemohjamcdkcmaaGreatDoor
namespace Go.Proofs.YtemohjamcdkcmaaGreatDoor
open Go.ChangeShapes Go.WideShapes Go.ChangeAt Go.RowKit
namespace Ww
open Wm Bm

theorem or_low (o v S : Nat) (ho : o < 2 ^ S) (hS : S < 32) (h : v % 2 ^ S = 0) : o ||| v % 4294967296 = o + v % 4294967296 := by
  have e : (v % 4294967296) % 2 ^ S = 0 := by
    rw [show 4294967296 = 2 ^ S * 2 ^ (32 - S) by rw [← Nat.pow_add, show S + (32 - S) = 32 by omega], Nat.mod_mul_right_mod]; exact h
  obtain ⟨q, hq⟩ : ∃ q, v % 4294967296 = 2 ^ S * q := ⟨v % 4294967296 / 2 ^ S, by have := Nat.div_add_mod (v % 4294967296) (2 ^ S); omega⟩
  rw [hq, Nat.or_comm, ← Nat.two_pow_add_eq_or_of_lt ho q]
  omega

theorem left_arith {V1 V2 r1 r2 o U P P1 A : Nat} (hr1 : r1 = o + U % 4294967296) (hr2 : r2 = U / 4294967296) (hp : P1 = P * 4294967296)
    (e1 : V2 = V1 + P1 * r2) (e2 : V1 + P * o = A + P * r1) : V2 = A + P * U := by
  have hUU : P * U = P * (U % 4294967296) + P * 4294967296 * (U / 4294967296) := by
    rw [Nat.mul_assoc, ← Nat.mul_add]; congr 1; omega
  rw [hUU, e1, hp, hr2]
  rw [hr1, Nat.mul_add] at e2
  generalize P * (U % 4294967296) = X at *
  generalize P * 4294967296 * (U / 4294967296) = Y at *
  generalize P * o = Z at *
  omega
theorem left_step {V1 V2 r1 r2 o U xk k W S : Nat} {xs : List Nat} (hr1 : r1 = o + U % 4294967296) (hr2 : r2 = U / 4294967296) (hU : U = xk * 2 ^ S) (hx : xk = xs.getD k 0) (hk : k < xs.length)
    (e1 : V2 = V1 + 2 ^ (32 * (k + W + 1)) * r2) (e2 : V1 + 2 ^ (32 * (k + W)) * o = 2 ^ (32 * W) * (valW (xs.take k) * 2 ^ S) + 2 ^ (32 * (k + W)) * r1) :
    V2 = 2 ^ (32 * W) * (valW (xs.take (k + 1)) * 2 ^ S) := by
  have hA := left_arith hr1 hr2 (pow32 (k + W)) e1 e2
  have hq : 2 ^ (32 * (k + W)) = 2 ^ (32 * W) * 2 ^ (32 * k) := by rw [← Nat.pow_add, Nat.mul_add, Nat.add_comm]
  have hlen : (xs.take k).length = k := by rw [List.length_take]; omega
  rw [take_snocN xs k hk, valW_snoc, hlen, ← hx, hA, hq, hU]
  rw [Nat.add_mul, Nat.mul_add, Nat.mul_assoc (2 ^ (32 * k)), Nat.mul_assoc (2 ^ (32 * W))]

set_option maxHeartbeats 8000000 in
theorem left_some (va : Value) (xs : List Nat) (n W S : Nat) (w : World) (ha : IsW w va xs) (hla : xs.length ≤ 10000) (h0 : 0 < xs.length) (hn : n = 32 * W + S) (hS : S < 32) (hW : W ≤ 1000) :
    Calls Tryz.prog 108 #[va, .int .u64 n] w fun e w' => ∃ v' rs, e = .returned v' ∧ IsW w' v' rs ∧ valW rs = valW xs * 2 ^ n ∧ trimW rs ∧ rs.length ≤ xs.length + W + 1 ∧ Below w.heap.size w w' := by
  obtain ⟨a, ca, rfl, hca, hma, hna, hcea, hoa⟩ := ha
  have HCA := Hid.mk hcea
  have HNA := Hid.mk hna
  have HOA := Hid.mk hoa
  obtain ⟨nA, hnA⟩ : ∃ n, n = xs.length := ⟨_, rfl⟩
  rw [← hnA] at hla h0 ⊢
  have HLA := Hid.mk hnA
  have g0 : ((nA : Int) == 0) = false := by simp; omega
  have hq : (n : Int) / 32 = (W : Int) := by omega
  have hr : (n : Int) % 32 = (S : Int) := by omega
  have hn2 : (n : Int) ≤ 40000 := by omega
  have HN := Hid.mk hn
  obtain ⟨i0, hi, hz0, hz1, hz2⟩ := info_parts info_u32
  clear hcea hna hoa hnA hca hma hn
  go_enter Tryz.func108, Tryz.ntmps108
  go_wp2_with (at_make; refine wpList_make_full _ rfl (.tmp 22) (.tmp 22) 108 rfl w.heap.size 141 i0 (.int .u32 0) 1 Tryz.underlying108 hi hz0 hz1 .i64 .i64 _ _ (nA + W + 1) rfl rfl (by omega) (by omega) (by rw [hz2]; omega) (by unfold maxLen; omega) (Nat.le_refl _) ?_; intro w2 hown hgrow)
  have hown0 : w2.ownsRow w.heap.size 141 1 (.slice (some ⟨w.heap.size, 0, none⟩) (nA + W + 1) (nA + W + 1)) (nA + W + 1) (cellsW (List.replicate (nA + W + 1) 0)) := by
    have := cellsW_rep (nA + W + 1)
    rw [List.nil_append, Nat.sub_zero] at this
    rw [this, ← toList_madeCells_one]
    rw [Nat.mul_one] at hown
    exact hown
  have hb2 : Below w.heap.size w w2 := Below.grown (Below.refl _ _) hgrow (Nat.le_refl _) (fun q hq => by cases hq)
  clear hown hgrow hi hz0 hz1 hz2 g0 hq hr
  go_wp2_with fail
  go_loopw [8] (fun i wr => ∃ (k : Nat) (rs : List Nat), k ≤ nA ∧ i = .int .i64 k ∧ rs.length = nA + W + 1 ∧ okW rs ∧ (∀ p, k + W + 1 ≤ p → rs.getD p 0 = 0) ∧ rs.getD (k + W) 0 < 2 ^ S ∧ valW rs = 2 ^ (32 * W) * (valW (xs.take k) * 2 ^ S) ∧
      wr.ownsRow w.heap.size 141 1 (.slice (some ⟨w.heap.size, 0, none⟩) (nA + W + 1) (nA + W + 1)) (nA + W + 1) (cellsW rs) ∧ Below w.heap.size w wr) (fun i _ => nA - (intOf i).toNat)
  case atStart => exact ⟨0, List.replicate (nA + W + 1) 0, Nat.zero_le _, rfl, by simp, (fun x hx => by rw [List.eq_of_mem_replicate hx]; omega), (fun p _ => by simp [List.getD, List.getElem?_replicate]; split <;> rfl), by rw [show (List.replicate (nA + W + 1) 0).getD (0 + W) 0 = 0 by simp [List.getD, List.getElem?_replicate]; split <;> rfl]; exact Nat.two_pow_pos S, by rw [valW_zeros]; simp [valW], hown0, hb2⟩
  case round =>
    clear hown0 hb2
    obtain ⟨k, rs, hk, rfl, hrl, hro, hrz, hrc, hrv, hown, hbel⟩ := hrel
    have HRL := Hid.mk hrl
    have HRO := Hid.mk hro
    have HRZ := Hid.mk hrz
    have HRV := Hid.mk hrv
    have HRC := Hid.mk hrc
    clear hrl hro hrz hrv hrc
    by_cases hlt : k < nA
    · cases a with
      | none => exact absurd (HNA.out rfl) (by have := HLA.out; omega)
      | some p =>
        have hcx := Bw.cell_kept hbel (HCA.out p rfl k (by have := HLA.out; omega))
        have hxk := okW_getD HOA.out k
        obtain ⟨xk, hxE⟩ : ∃ xk, xk = xs.getD k 0 := ⟨_, rfl⟩
        rw [← hxE] at hcx hxk
        have HXE := Hid.mk hxE
        have hlt' : (k : Int) < (nA : Int) := by omega
        have hx' : (xk : Int) ≤ 4294967295 := by omega
        have hc3 := hown.cellAt (k + W) (by omega)
        have hf3 := hown.frozenAt (k + W)
        rw [cellsW_get rs (k + W) (by have := HRL.out; omega)] at hc3
        have hok := okW_getD HRO.out (k + W)
        obtain ⟨o, hoE⟩ : ∃ o, o = rs.getD (k + W) 0 := ⟨_, rfl⟩
        rw [← hoE] at hc3 hok
        have HOE := Hid.mk hoE
        have ho' : (o : Int) ≤ 4294967295 := by omega
        obtain ⟨U, hU⟩ : ∃ U, U = xk * 2 ^ S := ⟨_, rfl⟩
        have hU1 : U ≤ 4294967295 * 2147483648 := by
          rw [hU]
          exact Nat.mul_le_mul (by omega) (by
            have : 2 ^ S ≤ 2 ^ 31 := Nat.pow_le_pow_right (by omega) (by omega)
            omega)
        have hUi : (U : Int) ≤ 9223372034707292160 := by omega
        have hsh : IntKind.u64.wrap ((xk : Int) * 2 ^ S) = (U : Int) := by
          have e : (xk : Int) * 2 ^ S = (U : Int) := by rw [hU]; simp
          rw [e, IntKind.wrap_u64]; omega
        have hor1 : o ||| U % 4294967296 = o + U % 4294967296 := or_low o U S (by rw [HOE.out]; exact HRC.out) hS (by rw [hU]; exact Nat.mul_mod_left _ _)
        have hoU : o + U % 4294967296 < 4294967296 := by rw [← hor1]; exact Nat.or_lt_two_pow (n := 32) (by omega) (by omega)
        obtain ⟨r1, hr1⟩ : ∃ r1, r1 = o + U % 4294967296 := ⟨_, rfl⟩
        have hb1 : bits .or .u32 (o : Int) ((U : Int) % 4294967296) = (r1 : Int) := by
          rw [show (U : Int) % 4294967296 = ((U % 4294967296 : Nat) : Int) by omega, u32_or_nat o _ (by omega) (by omega), hor1, hr1]
        obtain ⟨r2, hr2⟩ : ∃ r2, r2 = U / 4294967296 := ⟨_, rfl⟩
        have hr2b : r2 < 2 ^ S := by
          rw [hr2, hU]
          apply Nat.div_lt_of_lt_mul
          exact Nat.mul_lt_mul_of_pos_right (by omega) (Nat.two_pow_pos S)
        have hb2 : bits .or .u32 0 ((U : Int) / 4294967296) = (r2 : Int) := by
          have := u32_or_nat 0 (U / 4294967296) (by omega) (by omega)
          rw [Nat.zero_or] at this
          rw [show (U : Int) / 4294967296 = ((U / 4294967296 : Nat) : Int) by omega, hr2]
          exact this
        have hst1 := hown.stored (k + W) (.int .u32 (r1 : Int))
        rw [cellsW_setAt] at hst1
        have hbel1 := hbel.grown hst1.2 hbel.size (fun q hq => by cases hq; exact Nat.le_refl _)
        have hl1 : (rs.set (k + W) r1).length = nA + W + 1 := by rw [List.length_set]; exact HRL.out
        have hz1 : (rs.set (k + W) r1).getD (k + W + 1) 0 = 0 := set_zero HRZ.out (by omega) _ (by omega)
        have hc4 := hst1.1.cellAt (k + W + 1) (by omega)
        rw [cellsW_get _ (k + W + 1) (by omega), hz1] at hc4
        have hf4 := hst1.1.frozenAt (k + W + 1)
        have hst2 := hst1.1.stored (k + W + 1) (.int .u32 (r2 : Int))
        rw [cellsW_setAt] at hst2
        have hbel2 := hbel1.grown hst2.2 hbel1.size (fun q hq => by cases hq; exact Nat.le_refl _)
        have hok2 : okW ((rs.set (k + W) r1).set (k + W + 1) r2) := okW_set (okW_set HRO.out _ _ (by omega)) _ _ (by omega)
        have hz2 : ∀ p, k + 1 + W + 1 ≤ p → ((rs.set (k + W) r1).set (k + W + 1) r2).getD p 0 = 0 := fun p hp =>
          set_zero (q := k + 1 + W + 1) (set_zero (q := k + 1 + W + 1) (fun p hp => HRZ.out p (by omega)) (by omega)) (by omega) p hp
        have hg2 : ((rs.set (k + W) r1).set (k + W + 1) r2).getD (k + 1 + W) 0 = r2 := by
          rw [show k + 1 + W = k + W + 1 by omega]
          have : k + W + 1 < (rs.set (k + W) r1).length := by omega
          simp only [List.getD, List.getElem?_set_self this, Option.getD_some]
        have hv2 : valW ((rs.set (k + W) r1).set (k + W + 1) r2) = 2 ^ (32 * W) * (valW (xs.take (k + 1)) * 2 ^ S) := by
          have e1 := valW_set (rs.set (k + W) r1) (k + W + 1) r2 (by omega)
          rw [hz1, Nat.mul_zero, Nat.add_zero] at e1
          have e2 := valW_set rs (k + W) r1 (by have := HRL.out; omega)
          rw [← HOE.out, HRV.out] at e2
          exact left_step hr1 hr2 hU HXE.out (by have := HLA.out; omega) e1 e2
        have HST := Hid.mk hst2.1
        have HOK := Hid.mk hok2
        have HZ2 := Hid.mk hz2
        have HG2 := Hid.mk hg2
        have HV2 := Hid.mk hv2
        have HR2 := Hid.mk hr2b
        have HL1 := Hid.mk hl1
        clear hxE hoE hU hU1 hor1 hoU hr1 hr2 hr2b hst1 hst2 hok2 hz2 hg2 hv2 hown hbel hbel1 hl1 hz1
        go_wp2_with fail
        go_roundw
        case rel => exact ⟨k + 1, _, by omega, by go_num, by rw [List.length_set]; exact HL1.out, HOK.out, HZ2.out, by rw [HG2.out]; exact HR2.out, HV2.out, HST.out, hbel2⟩
        case measure => simp [intOf]; omega
    · have e : k = nA := by omega
      subst e
      have hW2 : IsW wr (.slice (some ⟨w.heap.size, 0, none⟩) (k + W + 1) (k + W + 1)) rs := isW_own hown HRL.out (by unfold maxLen; omega) HRO.out
      have HW2 := Hid.mk hW2
      clear hW2 hown
      go_wp2_with fail
      refine (trim_any _ rs wr HW2.out (by have := HRL.out; omega)).mono ?_
      rintro e w3 ⟨v', ys, rfl, hy, hv, ht, hl, hw3⟩
      subst hw3
      have HY := Hid.mk hy
      have HT := Hid.mk ht
      have hfin : valW ys = valW xs * 2 ^ n := by
        rw [hv, HRV.out, List.take_of_length_le (by have := HLA.out; omega), HN.out, Nat.pow_add, ← Nat.mul_assoc, Nat.mul_comm (2 ^ (32 * W)), Nat.mul_assoc]
      have HF := Hid.mk hfin
      have hll : ys.length ≤ k + W + 1 := by have := HRL.out; omega
      clear hy ht hv hfin hl
      go_wp2_with fail
      go_ret
      exact ⟨_, ys, rfl, HY.out, HF.out, HT.out, hll, hbel⟩

set_option maxHeartbeats 1000000 in
theorem left_nil (va : Value) (xs : List Nat) (n : Nat) (w : World) (ha : IsW w va xs) (h0 : xs.length = 0) :
    Calls Tryz.prog 108 #[va, .int .u64 n] w fun e w' => e = .returned (.slice none 0 0) ∧ w' = w := by
  obtain ⟨a, ca, rfl, hca, hma, hna, hcea, hoa⟩ := ha
  rw [h0]
  clear hca hma hna hcea hoa h0
  go_enter Tryz.func108, Tryz.ntmps108
  go_wp2_with fail
  go_ret
  exact ⟨rfl, rfl⟩

theorem left_any (va : Value) (xs : List Nat) (n : Nat) (w : World) (ha : IsW w va xs) (hla : xs.length ≤ 10000) (hn : n ≤ 30000) :
    Calls Tryz.prog 108 #[va, .int .u64 n] w fun e w' => ∃ v' rs, e = .returned v' ∧ IsW w' v' rs ∧ valW rs = valW xs * 2 ^ n ∧ trimW rs ∧ rs.length ≤ xs.length + n / 32 + 1 ∧ Below w.heap.size w w' := by
  by_cases h0 : xs.length = 0
  · refine (left_nil va xs n w ha h0).mono ?_
    rintro e w' ⟨rfl, rfl⟩
    have : xs = [] := List.eq_nil_of_length_eq_zero h0
    subst this
    exact ⟨_, [], rfl, isW_nil _, by simp [valW], .inl rfl, by simp, Below.refl _ _⟩
  · exact left_some va xs n (n / 32) (n % 32) w ha hla (by omega) (by omega) (by omega) (by omega)

/-- the number of bits of the highest word -/
theorem len_top {xs : List Nat} (hok : okW xs) (h0 : 0 < xs.length) {top j : Nat} (ht : top = xs.getD (xs.length - 1) 0) (hlt : top < 2 ^ j) (hge : j = 0 ∨ 2 ^ (j - 1) ≤ top) (hnz : top ≠ 0) :
    valW xs < 2 ^ ((xs.length - 1) * 32 + j) ∧ ((xs.length - 1) * 32 + j = 0 ∨ 2 ^ ((xs.length - 1) * 32 + j - 1) ≤ valW xs) := by
  have hk : xs.length - 1 < xs.length := by omega
  have e : xs = xs.take (xs.length - 1) ++ [top] := by
    rw [ht, ← take_snocN xs (xs.length - 1) hk, List.take_of_length_le (by omega)]
  have hlen : (xs.take (xs.length - 1)).length = xs.length - 1 := by rw [List.length_take]; omega
  have hv : valW xs = valW (xs.take (xs.length - 1)) + 2 ^ (32 * (xs.length - 1)) * top := by
    have := valW_snoc (xs.take (xs.length - 1)) top
    rw [← e, hlen] at this
    exact this
  have hl := valW_lt _ (okW_take hok (xs.length - 1))
  rw [hlen] at hl
  have hj : 1 ≤ j := by
    rcases hge with rfl | h
    · simp at hlt; omega
    · rcases Nat.lt_or_ge 0 j with h' | h'
      · exact h'
      · have : j = 0 := by omega
        subst this
        simp at hlt; omega
  have hge' : 2 ^ (j - 1) ≤ top := by rcases hge with h | h; omega; exact h
  generalize xs.length - 1 = m at *
  generalize valW (xs.take m) = A at *
  rw [hv]
  refine ⟨?_, .inr ?_⟩
  · have e1 : 2 ^ (m * 32 + j) = 2 ^ (32 * m) * 2 ^ j := by rw [Nat.pow_add, Nat.mul_comm m]
    have : 2 ^ (32 * m) * (top + 1) ≤ 2 ^ (32 * m) * 2 ^ j := Nat.mul_le_mul_left _ hlt
    rw [Nat.mul_add, Nat.mul_one] at this
    omega
  · have e1 : 2 ^ (m * 32 + j - 1) = 2 ^ (32 * m) * 2 ^ (j - 1) := by rw [← Nat.pow_add, Nat.mul_comm m]; congr 1; omega
    have : 2 ^ (32 * m) * 2 ^ (j - 1) ≤ 2 ^ (32 * m) * top := Nat.mul_le_mul_left _ hge'
    omega

set_option maxHeartbeats 4000000 in
theorem length_any (va : Value) (xs : List Nat) (w : World) (ha : IsW w va xs) (hla : xs.length ≤ 10000) (ht : trimW xs) :
    Calls Tryz.prog 113 #[va] w fun e w' => ∃ L : Nat, e = .returned (.int .i64 L) ∧ valW xs < 2 ^ L ∧ (L = 0 ∨ 2 ^ (L - 1) ≤ valW xs) ∧ L ≤ 32 * xs.length ∧ w' = w := by
  obtain ⟨a, ca, rfl, hca, hma, hna, hcea, hoa⟩ := ha
  by_cases h0 : xs.length = 0
  · have : xs = [] := List.eq_nil_of_length_eq_zero h0
    subst this
    clear hca hma hna hcea hoa h0 ht hla
    go_enter Tryz.func113, Tryz.ntmps113
    go_wp2_with fail
    go_ret
    exact ⟨0, rfl, by simp [valW], .inl rfl, by simp, rfl⟩
  · cases a with
    | none => exact absurd (hna rfl) h0
    | some p =>
      have hcx := hcea p rfl (xs.length - 1) (by omega)
      have htop := okW_getD hoa (xs.length - 1)
      obtain ⟨top, htE⟩ : ∃ top, top = xs.getD (xs.length - 1) 0 := ⟨_, rfl⟩
      rw [← htE] at hcx htop
      have hnz : top ≠ 0 := by
        rcases ht with rfl | h
        · simp at h0
        · rw [htE]; exact h
      obtain ⟨nA, hnA⟩ : ∃ n, n = xs.length := ⟨_, rfl⟩
      have HE := Hid.mk htE
      have HO := Hid.mk hoa
      have HNZ := Hid.mk hnz
      rw [← hnA] at hla h0 hcx ⊢
      have HLA := Hid.mk hnA
      have h1 : (1 : Int) ≤ (nA : Int) := by omega
      have g0 : ((nA : Int) == 0) = false := by simp; omega
      have hidx : ((nA : Int) - 1).toNat = nA - 1 := by omega
      have HTOP := Hid.mk htop
      clear hca hma hna hcea hoa h0 ht htE hnz hnA htop
      go_enter Tryz.func113, Tryz.ntmps113
      go_wp2_with fail
      go_loopw [3, 4] (fun c t wr => ∃ (j T : Nat), c = .int .i64 j ∧ t = .int .u32 T ∧ T = top / 2 ^ j ∧ j ≤ 32 ∧ (j = 0 ∨ 2 ^ (j - 1) ≤ top) ∧ wr = w) (fun _ t _ => (intOf t).toNat)
      case atStart => exact ⟨0, top, rfl, rfl, by simp, by omega, .inl rfl, rfl⟩
      case round =>
        obtain ⟨j, T, rfl, rfl, hT, hj, hge, rfl⟩ := hrel
        have HT := Hid.mk hT
        have HGE := Hid.mk hge
        clear hT hge
        by_cases hz : T = 0
        · subst hz
          have hlt : top < 2 ^ j := by
            have := HT.out
            rcases Nat.lt_or_ge top (2 ^ j) with h | h
            · exact h
            · have := Nat.div_pos h (Nat.two_pow_pos j); omega
          have hfin := len_top HO.out (by have := HLA.out; omega) HE.out hlt HGE.out HNZ.out
          rw [← HLA.out] at hfin
          have HF := Hid.mk hfin
          clear hlt hfin
          go_wp2_with fail
          go_ret
          exact ⟨(nA - 1) * 32 + j, congrArg (fun z : Int => Ending.returned (Value.int .i64 z)) (show ((nA : Int) - 1) * 32 + (j : Int) = (((nA - 1) * 32 + j : Nat) : Int) by omega), HF.out.1, HF.out.2, by omega, rfl⟩
        · have hz' : ((T : Int) != 0) = true := by simp; omega
          have hz2 : ((T : Int) == 0) = false := by simp; omega
          have hTb : T < 4294967296 := by
            have := HT.out
            have h2 : top / 2 ^ j ≤ top := Nat.div_le_self _ _
            have := HTOP.out
            omega
          have hTi : (T : Int) ≤ 4294967295 := by omega
          have hge2 : 2 ^ j ≤ top := by
            rcases Nat.lt_or_ge top (2 ^ j) with h | h
            · have := Nat.div_eq_of_lt h
              have := HT.out
              omega
            · exact h
          have hj2 : j + 1 ≤ 32 := by
            rcases Nat.lt_or_ge j 32 with h | h
            · exact h
            · have : 2 ^ 32 ≤ 2 ^ j := Nat.pow_le_pow_right (by omega) h
              have := HTOP.out
              omega
          have HGE2 := Hid.mk hge2
          have hT2 : T / 2 = top / 2 ^ (j + 1) := by rw [HT.out, Nat.pow_succ, Nat.div_div_eq_div_mul]
          have HT2 := Hid.mk hT2
          clear hge2 hT2 hTb
          go_wp2_with fail
          go_roundw
          case rel => exact ⟨j + 1, T / 2, by go_num, by go_num, HT2.out, hj2, .inr HGE2.out, by trivial⟩
          case measure => simp [intOf]; omega
end Ww
end Go.Proofs.YtemohjamcdkcmaaGreatDoor
namespace Go.Proofs.YtemohjamcdkcmaaGreatDoor
open Go.ChangeShapes Go.WideShapes Go.ChangeAt Go.RowKit
namespace Ww
open Wm
set_option maxHeartbeats 8000000 in
theorem add_any (va vb : Value) (xs ys : List Nat) (w : World) (ha : IsW w va xs) (hb : IsW w vb ys) (hla : xs.length ≤ 10000) (hlb : ys.length ≤ 10000) :
    Calls Tryz.prog 127 #[va, vb] w fun e w' => ∃ v' rs, e = .returned v' ∧ IsW w' v' rs ∧ valW rs = valW xs + valW ys ∧ trimW rs ∧ rs.length ≤ max xs.length ys.length + 1 ∧ Below w.heap.size w w' := by
  obtain ⟨a, ca, rfl, hca, hma, hna, hcea, hoa⟩ := ha
  obtain ⟨b, cb, rfl, hcb, hmb, hnb, hceb, hob⟩ := hb
  have HCA := Hid.mk hcea
  have HCB := Hid.mk hceb
  have HNA := Hid.mk hna
  have HNB := Hid.mk hnb
  have HOA := Hid.mk hoa
  have HOB := Hid.mk hob
  obtain ⟨nA, hnA⟩ : ∃ n, n = xs.length := ⟨_, rfl⟩
  obtain ⟨nB, hnB⟩ : ∃ n, n = ys.length := ⟨_, rfl⟩
  rw [← hnA] at hla ⊢
  rw [← hnB] at hlb ⊢
  have HLA := Hid.mk hnA
  have HLB := Hid.mk hnB
  obtain ⟨i0, hi, hz0, hz1, hz2⟩ := info_parts info_u32
  clear hcea hceb hna hnb hoa hob hnA hnB hca hcb hma hmb
  go_enter Tryz.func127, Tryz.ntmps127
  by_cases hs : nA < nB
  · go_wp2_with (at_make; refine wpList_make_full _ rfl (.tmp 17) (.tmp 17) 108 rfl w.heap.size 141 i0 (.int .u32 0) 1 Tryz.underlying108 hi hz0 hz1 .i64 .i64 _ _ (nB + 1) rfl rfl (by omega) (by omega) (by rw [hz2]; omega) (by unfold maxLen; omega) (Nat.le_refl _) ?_; intro w2 hown hgrow)
    have hown0 : w2.ownsRow w.heap.size 141 1 (.slice (some ⟨w.heap.size, 0, none⟩) (nB + 1) (nB + 1)) (nB + 1) (cellsW ([] ++ List.replicate (nB + 1 - 0) 0)) := by
      rw [cellsW_rep, ← toList_madeCells_one]
      rw [Nat.mul_one] at hown
      exact hown
    have hb2 : Below w.heap.size w w2 := Below.grown (Below.refl _ _) hgrow (Nat.le_refl _) (fun q hq => by cases hq)
    clear hown hgrow hi hz0 hz1 hz2
    go_wp2_with fail
    go_loopw [6, 7] (fun c i wr => ∃ (k cc : Nat) (zs : List Nat), k ≤ nB ∧ i = .int .i64 k ∧ c = .int .u64 cc ∧ cc ≤ 1 ∧ zs.length = k ∧ okW zs ∧ valW zs + 2 ^ (32 * k) * cc = valW (ys.take k) + valW (xs.take k) ∧
        wr.ownsRow w.heap.size 141 1 (.slice (some ⟨w.heap.size, 0, none⟩) (nB + 1) (nB + 1)) (nB + 1) (cellsW (zs ++ List.replicate (nB + 1 - k) 0)) ∧ Below w.heap.size w wr) (fun _ i _ => nB - (intOf i).toNat)
    case atStart => exact ⟨0, 0, [], Nat.zero_le _, rfl, rfl, by omega, rfl, (fun x hx => by cases hx), by simp [valW], hown0, hb2⟩
    case round =>
      clear hown0 hb2
      obtain ⟨k, cc, zs, hk, rfl, rfl, hcc, hzl, hzo, hval, hown, hbel⟩ := hrel
      have HZL := Hid.mk hzl
      have HZO := Hid.mk hzo
      have HV := Hid.mk hval
      clear hzl hzo hval
      by_cases hlt : k < nB
      · cases b with
        | none => exact absurd (HNB.out rfl) (by have := HLB.out; omega)
        | some p =>
          have hcx := Bw.cell_kept hbel (HCB.out p rfl k (by have := HLB.out; omega))
          have hxk := okW_getD HOB.out k
          obtain ⟨xk, hxE⟩ : ∃ xk, xk = ys.getD k 0 := ⟨_, rfl⟩
          rw [← hxE] at hcx hxk
          have HXE := Hid.mk hxE
          clear hxE
          have hxk' : (xk : Int) ≤ 4294967295 := by omega
          have hlt' : (k : Int) < (nB : Int) := by omega
          have hcc' : (cc : Int) ≤ 1 := by omega
          have hc3 := hown.cellAt k (by omega)
          have hf3 := hown.frozenAt k
          rw [cellsW_at zs (nB + 1) k HZL.out (by omega)] at hc3
          by_cases hly : k < nA
          · cases a with
            | none => exact absurd (HNA.out rfl) (by have := HLA.out; omega)
            | some q =>
              have hcy := Bw.cell_kept hbel (HCA.out q rfl k (by have := HLA.out; omega))
              have hyk := okW_getD HOA.out k
              obtain ⟨yk, hyE⟩ : ∃ yk, yk = xs.getD k 0 := ⟨_, rfl⟩
              rw [← hyE] at hcy hyk
              have HYE := Hid.mk hyE
              clear hyE
              have hyk' : (yk : Int) ≤ 4294967295 := by omega
              have hly' : (k : Int) < (nA : Int) := by omega
              have hst := hown.stored k (.int .u32 (((cc : Int) + xk + yk) % 4294967296))
              rw [show ((cc : Int) + xk + yk) % 4294967296 = (((cc + xk + yk) % 4294967296 : Nat) : Int) by omega, cellsW_set zs (nB + 1) k _ HZL.out (by omega), show (((cc + xk + yk) % 4294967296 : Nat) : Int) = ((cc : Int) + xk + yk) % 4294967296 by omega] at hst
              have HST := Hid.mk hst
              clear hst hown
              go_wp2_with fail
              go_roundw
              case rel => exact ⟨k + 1, (cc + xk + yk) / 4294967296, zs ++ [(cc + xk + yk) % 4294967296], by omega, by go_num, by go_num, by omega, (by rw [List.length_append, HZL.out]; rfl), okW_append HZO.out (okW_one (by omega)), add_step HV.out HZL.out HXE.out HYE.out (by have := HLB.out; omega) (by have := HLA.out; omega), HST.out.1, hbel.grown HST.out.2 hbel.size (fun q hq => by cases hq; exact Nat.le_refl _)⟩
              case measure => simp [intOf]; omega
          · have hly' : (nA : Int) ≤ (k : Int) := by omega
            have hst := hown.stored k (.int .u32 (((cc : Int) + xk) % 4294967296))
            rw [show ((cc : Int) + xk) % 4294967296 = (((cc + xk) % 4294967296 : Nat) : Int) by omega, cellsW_set zs (nB + 1) k _ HZL.out (by omega), show (((cc + xk) % 4294967296 : Nat) : Int) = ((cc : Int) + xk) % 4294967296 by omega] at hst
            have HST := Hid.mk hst
            clear hst hown
            go_wp2_with fail
            go_roundw
            case rel => exact ⟨k + 1, (cc + xk) / 4294967296, zs ++ [(cc + xk) % 4294967296], by omega, by go_num, by go_num, by omega, (by rw [List.length_append, HZL.out]; rfl), okW_append HZO.out (okW_one (by omega)), add_step1 HV.out HZL.out HXE.out (by have := HLB.out; omega) (by have := HLA.out; omega), HST.out.1, hbel.grown HST.out.2 hbel.size (fun q hq => by cases hq; exact Nat.le_refl _)⟩
            case measure => simp [intOf]; omega
      · have e : k = nB := by omega
        subst e
        have hcc' : (cc : Int) ≤ 1 := by omega
        have hc3 := hown.cellAt k (by omega)
        have hf3 := hown.frozenAt k
        rw [cellsW_at zs (k + 1) k HZL.out (by omega)] at hc3
        have hst := hown.stored k (.int .u32 (cc : Int))
        rw [cellsW_set zs (k + 1) k _ HZL.out (by omega), Nat.sub_self, List.replicate_zero, List.append_nil] at hst
        have HST := Hid.mk hst
        clear hst hown
        go_wp2_with fail
        refine (trim_any _ (zs ++ [cc]) _ (isW_own HST.out.1 (by rw [List.length_append, HZL.out]; rfl) (by unfold maxLen; omega) (okW_append HZO.out (okW_one (by omega)))) (by rw [List.length_append, HZL.out]; simp; omega)).mono ?_
        rintro e w3 ⟨v', rs, rfl, hr1, hr2, hr3, hr4, rfl⟩
        have hb3 := hbel.grown HST.out.2 hbel.size (fun q hq => by cases hq; exact Nat.le_refl _)
        have hvv : valW rs = valW xs + valW ys := by
          have hv := HV.out
          have hX := HLB.out
          have hY := HLA.out
          rw [List.take_of_length_le (by omega), List.take_of_length_le (by omega)] at hv
          rw [hr2, valW_snoc, HZL.out, hv]; omega
        have HVV := Hid.mk hvv
        clear hvv HST hr2
        go_wp2_with fail
        go_ret
        exact ⟨_, rs, rfl, hr1, HVV.out, hr3, by rw [List.length_append, HZL.out] at hr4; simp at hr4; omega, hb3⟩
  · go_wp2_with (at_make; refine wpList_make_full _ rfl (.tmp 17) (.tmp 17) 108 rfl w.heap.size 141 i0 (.int .u32 0) 1 Tryz.underlying108 hi hz0 hz1 .i64 .i64 _ _ (nA + 1) rfl rfl (by omega) (by omega) (by rw [hz2]; omega) (by unfold maxLen; omega) (Nat.le_refl _) ?_; intro w2 hown hgrow)
    have hown0 : w2.ownsRow w.heap.size 141 1 (.slice (some ⟨w.heap.size, 0, none⟩) (nA + 1) (nA + 1)) (nA + 1) (cellsW ([] ++ List.replicate (nA + 1 - 0) 0)) := by
      rw [cellsW_rep, ← toList_madeCells_one]
      rw [Nat.mul_one] at hown
      exact hown
    have hb2 : Below w.heap.size w w2 := Below.grown (Below.refl _ _) hgrow (Nat.le_refl _) (fun q hq => by cases hq)
    clear hown hgrow hi hz0 hz1 hz2
    go_wp2_with fail
    go_loopw [6, 7] (fun c i wr => ∃ (k cc : Nat) (zs : List Nat), k ≤ nA ∧ i = .int .i64 k ∧ c = .int .u64 cc ∧ cc ≤ 1 ∧ zs.length = k ∧ okW zs ∧ valW zs + 2 ^ (32 * k) * cc = valW (xs.take k) + valW (ys.take k) ∧
        wr.ownsRow w.heap.size 141 1 (.slice (some ⟨w.heap.size, 0, none⟩) (nA + 1) (nA + 1)) (nA + 1) (cellsW (zs ++ List.replicate (nA + 1 - k) 0)) ∧ Below w.heap.size w wr) (fun _ i _ => nA - (intOf i).toNat)
    case atStart => exact ⟨0, 0, [], Nat.zero_le _, rfl, rfl, by omega, rfl, (fun x hx => by cases hx), by simp [valW], hown0, hb2⟩
    case round =>
      clear hown0 hb2
      obtain ⟨k, cc, zs, hk, rfl, rfl, hcc, hzl, hzo, hval, hown, hbel⟩ := hrel
      have HZL := Hid.mk hzl
      have HZO := Hid.mk hzo
      have HV := Hid.mk hval
      clear hzl hzo hval
      by_cases hlt : k < nA
      · cases a with
        | none => exact absurd (HNA.out rfl) (by have := HLA.out; omega)
        | some p =>
          have hcx := Bw.cell_kept hbel (HCA.out p rfl k (by have := HLA.out; omega))
          have hxk := okW_getD HOA.out k
          obtain ⟨xk, hxE⟩ : ∃ xk, xk = xs.getD k 0 := ⟨_, rfl⟩
          rw [← hxE] at hcx hxk
          have HXE := Hid.mk hxE
          clear hxE
          have hxk' : (xk : Int) ≤ 4294967295 := by omega
          have hlt' : (k : Int) < (nA : Int) := by omega
          have hcc' : (cc : Int) ≤ 1 := by omega
          have hc3 := hown.cellAt k (by omega)
          have hf3 := hown.frozenAt k
          rw [cellsW_at zs (nA + 1) k HZL.out (by omega)] at hc3
          by_cases hly : k < nB
          · cases b with
            | none => exact absurd (HNB.out rfl) (by have := HLB.out; omega)
            | some q =>
              have hcy := Bw.cell_kept hbel (HCB.out q rfl k (by have := HLB.out; omega))
              have hyk := okW_getD HOB.out k
              obtain ⟨yk, hyE⟩ : ∃ yk, yk = ys.getD k 0 := ⟨_, rfl⟩
              rw [← hyE] at hcy hyk
              have HYE := Hid.mk hyE
              clear hyE
              have hyk' : (yk : Int) ≤ 4294967295 := by omega
              have hly' : (k : Int) < (nB : Int) := by omega
              have hst := hown.stored k (.int .u32 (((cc : Int) + xk + yk) % 4294967296))
              rw [show ((cc : Int) + xk + yk) % 4294967296 = (((cc + xk + yk) % 4294967296 : Nat) : Int) by omega, cellsW_set zs (nA + 1) k _ HZL.out (by omega), show (((cc + xk + yk) % 4294967296 : Nat) : Int) = ((cc : Int) + xk + yk) % 4294967296 by omega] at hst
              have HST := Hid.mk hst
              clear hst hown
              go_wp2_with fail
              go_roundw
              case rel => exact ⟨k + 1, (cc + xk + yk) / 4294967296, zs ++ [(cc + xk + yk) % 4294967296], by omega, by go_num, by go_num, by omega, (by rw [List.length_append, HZL.out]; rfl), okW_append HZO.out (okW_one (by omega)), add_step HV.out HZL.out HXE.out HYE.out (by have := HLA.out; omega) (by have := HLB.out; omega), HST.out.1, hbel.grown HST.out.2 hbel.size (fun q hq => by cases hq; exact Nat.le_refl _)⟩
              case measure => simp [intOf]; omega
          · have hly' : (nB : Int) ≤ (k : Int) := by omega
            have hst := hown.stored k (.int .u32 (((cc : Int) + xk) % 4294967296))
            rw [show ((cc : Int) + xk) % 4294967296 = (((cc + xk) % 4294967296 : Nat) : Int) by omega, cellsW_set zs (nA + 1) k _ HZL.out (by omega), show (((cc + xk) % 4294967296 : Nat) : Int) = ((cc : Int) + xk) % 4294967296 by omega] at hst
            have HST := Hid.mk hst
            clear hst hown
            go_wp2_with fail
            go_roundw
            case rel => exact ⟨k + 1, (cc + xk) / 4294967296, zs ++ [(cc + xk) % 4294967296], by omega, by go_num, by go_num, by omega, (by rw [List.length_append, HZL.out]; rfl), okW_append HZO.out (okW_one (by omega)), add_step1 HV.out HZL.out HXE.out (by have := HLA.out; omega) (by have := HLB.out; omega), HST.out.1, hbel.grown HST.out.2 hbel.size (fun q hq => by cases hq; exact Nat.le_refl _)⟩
            case measure => simp [intOf]; omega
      · have e : k = nA := by omega
        subst e
        have hcc' : (cc : Int) ≤ 1 := by omega
        have hc3 := hown.cellAt k (by omega)
        have hf3 := hown.frozenAt k
        rw [cellsW_at zs (k + 1) k HZL.out (by omega)] at hc3
        have hst := hown.stored k (.int .u32 (cc : Int))
        rw [cellsW_set zs (k + 1) k _ HZL.out (by omega), Nat.sub_self, List.replicate_zero, List.append_nil] at hst
        have HST := Hid.mk hst
        clear hst hown
        go_wp2_with fail
        refine (trim_any _ (zs ++ [cc]) _ (isW_own HST.out.1 (by rw [List.length_append, HZL.out]; rfl) (by unfold maxLen; omega) (okW_append HZO.out (okW_one (by omega)))) (by rw [List.length_append, HZL.out]; simp; omega)).mono ?_
        rintro e w3 ⟨v', rs, rfl, hr1, hr2, hr3, hr4, rfl⟩
        have hb3 := hbel.grown HST.out.2 hbel.size (fun q hq => by cases hq; exact Nat.le_refl _)
        have hvv : valW rs = valW xs + valW ys := by
          have hv := HV.out
          have hX := HLA.out
          have hY := HLB.out
          rw [List.take_of_length_le (by omega), List.take_of_length_le (by omega)] at hv
          rw [hr2, valW_snoc, HZL.out, hv]
        have HVV := Hid.mk hvv
        clear hvv HST hr2
        go_wp2_with fail
        go_ret
        exact ⟨_, rs, rfl, hr1, HVV.out, hr3, by rw [List.length_append, HZL.out] at hr4; simp at hr4; omega, hb3⟩
end Ww
end Go.Proofs.YtemohjamcdkcmaaGreatDoor
