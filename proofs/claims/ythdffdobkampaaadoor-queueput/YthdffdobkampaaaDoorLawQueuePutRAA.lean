/- Joined out of our texts: RowMath, RowVal. -/
import Derived.Test.YthdffdobkampaaaDoorBase8
/- Plain facts on rows of bits: a number's row tells the number. -/
namespace Go.Proofs.YthdffdobkampaaaDoor
namespace Bw
open Bm

theorem bitAt_bit (n j : Nat) : bit (bitAt n j) = true := by unfold bitAt; split <;> rfl

theorem bitAt_dig (n j : Nat) : dig (bitAt n j) = n / 2 ^ j % 2 := by
  unfold bitAt
  have := Nat.mod_lt (n / 2 ^ j) (show 0 < 2 by omega)
  split
  · rename_i h; rw [h]; rfl
  · have : n / 2 ^ j % 2 = 0 := by omega
    rw [this]; rfl

theorem bitsHead_row (n size k : Nat) : rowB (bitsHead n size k) = true := by
  unfold rowB bitsHead
  rw [List.all_map, List.all_eq_true]
  intro i _
  exact bitAt_bit n _

theorem val_bitsHead (n size : Nat) : ∀ k, k ≤ size → n < 2 ^ size → val (bitsHead n size k) = n / 2 ^ (size - k)
  | 0, _, h => by simp [bitsHead, val, Nat.div_eq_of_lt h]
  | k + 1, hk, h => by
    rw [bitsHead_succ, val_snoc, val_bitsHead n size k (by omega) h, bitAt_dig]
    have e : size - k = (size - 1 - k) + 1 := by omega
    have e2 : size - (k + 1) = size - 1 - k := by omega
    rw [e, e2, Nat.pow_succ, ← Nat.div_div_eq_div_mul]
    omega

theorem val_row (n size : Nat) (h : n < 2 ^ size) : val (bitsHead n size size) = n := by
  rw [val_bitsHead n size size (Nat.le_refl _) h]; simp

theorem ofL_cons (c : UInt8) (l : List UInt8) : ofL (c :: l) = bitsHead c.toNat 8 8 ++ ofL l := rfl

theorem ofL_row (l : List UInt8) : rowB (ofL l) = true := by
  induction l with
  | nil => rfl
  | cons c l ih => rw [ofL_cons, rowB_append, bitsHead_row, ih]; rfl

theorem ofL_drop (l : List UInt8) : ∀ i, (ofL l).drop (8 * i) = ofL (l.drop i) := by
  induction l with
  | nil => intro i; simp [ofL]
  | cons c l ih =>
    intro i
    cases i with
    | zero => rfl
    | succ i =>
      rw [ofL_cons, List.drop_succ_cons, ← ih i]
      have e : 8 * (i + 1) = (bitsHead c.toNat 8 8).length + 8 * i := by rw [bitsHead_length]; omega
      rw [e, List.drop_length_add_append]
end Bw
end Go.Proofs.YthdffdobkampaaaDoor

/- Plain facts on rows: a row is told by its number and its length. -/
namespace Go.Proofs.YthdffdobkampaaaDoor
namespace Bw
open Bm
theorem list_snoc_ind {p : List UInt8 → Prop} (h0 : p []) (h1 : ∀ l c, p l → p (l ++ [c])) : ∀ l, p l := by
  intro l
  have : ∀ r : List UInt8, p r.reverse := by
    intro r
    induction r with
    | nil => exact h0
    | cons c r ih => rw [List.reverse_cons]; exact h1 _ _ ih
  have := this l.reverse
  rwa [List.reverse_reverse] at this
theorem bitAt_up (v d q : Nat) (hd : d ≤ 1) : bitAt (2 * v + d) (q + 1) = bitAt v q := by
  unfold bitAt
  have e : (2 * v + d) / 2 ^ (q + 1) = v / 2 ^ q := by
    rw [Nat.pow_succ, Nat.mul_comm (2 ^ q) 2, ← Nat.div_div_eq_div_mul]
    congr 1; omega
  rw [e]
theorem bits_val (t : List UInt8) : rowB t = true → bitsHead (val t) t.length t.length = t := by
  refine list_snoc_ind (p := fun t => rowB t = true → bitsHead (val t) t.length t.length = t) (fun _ => rfl) ?_ t
  intro t c ih h
  rw [rowB_snoc] at h
  simp only [Bool.and_eq_true] at h
  have hd := (bit_dig h.2).1
  rw [val_snoc, List.length_append, List.length_singleton, bitsHead_succ]
  have e1 : bitsHead (2 * val t + dig c) (t.length + 1) t.length = bitsHead (val t) t.length t.length := by
    unfold bitsHead
    apply List.map_congr_left
    intro i hi
    have hi' : i < t.length := by simpa using hi
    have : t.length + 1 - 1 - i = (t.length - 1 - i) + 1 := by omega
    rw [this, bitAt_up _ _ _ hd]
  have e2 : bitAt (2 * val t + dig c) (t.length + 1 - 1 - t.length) = c := by
    have : t.length + 1 - 1 - t.length = 0 := by omega
    rw [this]
    unfold bitAt
    rcases (bit_iff c).1 h.2 with hc | hc
    · have : c = 48 := UInt8.toNat_inj.1 (by show c.toNat = 48; omega)
      subst this
      have : dig 48 = 0 := rfl
      rw [this, if_neg (by simp)]
    · have : c = 49 := UInt8.toNat_inj.1 (by show c.toNat = 49; omega)
      subst this
      have : dig 49 = 1 := rfl
      rw [this, if_pos (by simp)]
  rw [e1, e2, ih h.1]
/-- a row of s bits is the row of v if it tells v -/
theorem row_is (t : List UInt8) (v s : Nat) (h : rowB t = true) (hl : t.length = s) (hv : v < 2 ^ s) : t = bitsHead v s s ↔ val t = v := by
  constructor
  · intro e; rw [e, val_row v s hv]
  · intro e; rw [← e, ← hl, bits_val t h]
end Bw
end Go.Proofs.YthdffdobkampaaaDoor
