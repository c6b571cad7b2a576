/- Plain facts on rows of bits: a number's row tells the number. -/
import Derived.Test.YtopoogdoepdedaaDoorBase8
namespace Go.Proofs.YtopoogdoepdedaaDoor
namespace Bw
open Bm

theorem bitAt_bit (n j : Nat) : bit (bitAt n j) = true := by unfold bitAt; split <;> rfl

theorem bitAt_dig (n j : Nat) : dig (bitAt n j) = n / 2 ^ j % 2 := by
  unfold bitAt
  have := Nat.mod_lt (n / 2 ^ j) (show 0 < 2 by omega)
  split
  · rename_i h; rw [h]; rfl
  · have : n / 2 ^ j % 2 = 0 := by omega
    rw [this]; rfl

theorem bitsHead_row (n size k : Nat) : rowB (bitsHead n size k) = true := by
  unfold rowB bitsHead
  rw [List.all_map, List.all_eq_true]
  intro i _
  exact bitAt_bit n _

theorem val_bitsHead (n size : Nat) : ∀ k, k ≤ size → n < 2 ^ size → val (bitsHead n size k) = n / 2 ^ (size - k)
  | 0, _, h => by simp [bitsHead, val, Nat.div_eq_of_lt h]
  | k + 1, hk, h => by
    rw [bitsHead_succ, val_snoc, val_bitsHead n size k (by omega) h, bitAt_dig]
    have e : size - k = (size - 1 - k) + 1 := by omega
    have e2 : size - (k + 1) = size - 1 - k := by omega
    rw [e, e2, Nat.pow_succ, ← Nat.div_div_eq_div_mul]
    omega

theorem val_row (n size : Nat) (h : n < 2 ^ size) : val (bitsHead n size size) = n := by
  rw [val_bitsHead n size size (Nat.le_refl _) h]; simp

theorem ofL_cons (c : UInt8) (l : List UInt8) : ofL (c :: l) = bitsHead c.toNat 8 8 ++ ofL l := rfl

theorem ofL_row (l : List UInt8) : rowB (ofL l) = true := by
  induction l with
  | nil => rfl
  | cons c l ih => rw [ofL_cons, rowB_append, bitsHead_row, ih]; rfl

theorem ofL_drop (l : List UInt8) : ∀ i, (ofL l).drop (8 * i) = ofL (l.drop i) := by
  induction l with
  | nil => intro i; simp [ofL]
  | cons c l ih =>
    intro i
    cases i with
    | zero => rfl
    | succ i =>
      rw [ofL_cons, List.drop_succ_cons, ← ih i]
      have e : 8 * (i + 1) = (bitsHead c.toNat 8 8).length + 8 * i := by rw [bitsHead_length]; omega
      rw [e, List.drop_length_add_append]
end Bw
end Go.Proofs.YtopoogdoepdedaaDoor
