/- Plain facts on numbers as lists of words of 32 bits, the least first; of no program. -/
import Derived.WalkKit
namespace Go.Proofs.YtopoogdoepdedaaDoor.Wm

def valW : List Nat → Nat
  | [] => 0
  | x :: xs => x + 4294967296 * valW xs
def okW (xs : List Nat) : Prop := ∀ x ∈ xs, x < 4294967296
def trimW (xs : List Nat) : Prop := xs = [] ∨ xs.getD (xs.length - 1) 0 ≠ 0

theorem valW_append (a b : List Nat) : valW (a ++ b) = valW a + 2 ^ (32 * a.length) * valW b := by
  induction a with
  | nil => simp [valW]
  | cons x a ih =>
    rw [List.cons_append, valW, ih, valW, List.length_cons, Nat.mul_add, Nat.mul_add, Nat.pow_add, Nat.mul_one]
    have e : (2 : Nat) ^ 32 = 4294967296 := rfl
    rw [e]
    have : 4294967296 * (2 ^ (32 * a.length) * valW b) = 2 ^ (32 * a.length) * 4294967296 * valW b := by
      rw [← Nat.mul_assoc, Nat.mul_comm 4294967296]
    omega
theorem valW_snoc (a : List Nat) (x : Nat) : valW (a ++ [x]) = valW a + 2 ^ (32 * a.length) * x := by
  rw [valW_append]; simp [valW]
theorem valW_lt (a : List Nat) (h : okW a) : valW a < 2 ^ (32 * a.length) := by
  induction a with
  | nil => simp [valW]
  | cons x a ih =>
    have h1 := ih (fun y hy => h y (List.mem_cons_of_mem _ hy))
    have h2 := h x (List.mem_cons_self)
    rw [valW, List.length_cons, Nat.mul_add, Nat.pow_add]
    have e : (2 : Nat) ^ (32 * 1) = 4294967296 := rfl
    rw [e]
    omega
theorem okW_append {a b : List Nat} (ha : okW a) (hb : okW b) : okW (a ++ b) := by
  intro x hx
  rcases List.mem_append.1 hx with h | h
  · exact ha x h
  · exact hb x h
theorem okW_take {a : List Nat} (h : okW a) (k : Nat) : okW (a.take k) := fun x hx => h x (List.mem_of_mem_take hx)
theorem okW_getD {a : List Nat} (h : okW a) (i : Nat) : a.getD i 0 < 4294967296 := by
  by_cases hi : i < a.length
  · simp only [List.getD, List.getElem?_eq_getElem hi, Option.getD_some]; exact h _ (List.getElem_mem _)
  · simp [List.getD, List.getElem?_eq_none (Nat.le_of_not_lt hi)]
theorem take_snocN (l : List Nat) (k : Nat) (h : k < l.length) : l.take (k + 1) = l.take k ++ [l.getD k 0] := by
  rw [List.take_succ_eq_append_getElem h]; simp [List.getD, h]
theorem take_step (a : List Nat) (k : Nat) (h : k < a.length) (h0 : a.getD k 0 = 0) : valW (a.take (k + 1)) = valW (a.take k) := by
  rw [take_snocN a k h, valW_snoc, h0]; simp
theorem trimW_len {a : List Nat} (h : trimW a) (n : Nat) (hv : valW a < 2 ^ (32 * n)) : a.length ≤ n := by
  rcases h with rfl | h
  · simp
  · rcases Nat.lt_or_ge n a.length with hlt | hge
    · exfalso
      have hk : a.length - 1 < a.length := by omega
      have e : a = a.take (a.length - 1) ++ [a.getD (a.length - 1) 0] := by
        rw [← take_snocN a (a.length - 1) hk, List.take_of_length_le (by omega)]
      have hv2 : valW a = valW (a.take (a.length - 1)) + 2 ^ (32 * (a.length - 1)) * a.getD (a.length - 1) 0 := by
        have := valW_snoc (a.take (a.length - 1)) (a.getD (a.length - 1) 0)
        rw [← e, List.length_take, Nat.min_eq_left (by omega)] at this
        exact this
      have h1 : 1 ≤ a.getD (a.length - 1) 0 := by omega
      have h2 : 2 ^ (32 * n) ≤ 2 ^ (32 * (a.length - 1)) := Nat.pow_le_pow_right (by omega) (by omega)
      have h3 : 2 ^ (32 * (a.length - 1)) * 1 ≤ 2 ^ (32 * (a.length - 1)) * a.getD (a.length - 1) 0 := Nat.mul_le_mul_left _ h1
      omega
    · exact hge
end Go.Proofs.YtopoogdoepdedaaDoor.Wm
