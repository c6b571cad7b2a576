/- Plain facts on rows: a row is told by its number and its length. -/
import Derived.Test.YtopoogdoepdedaaDoorRowMath
namespace Go.Proofs.YtopoogdoepdedaaDoor
namespace Bw
open Bm
theorem list_snoc_ind {p : List UInt8 → Prop} (h0 : p []) (h1 : ∀ l c, p l → p (l ++ [c])) : ∀ l, p l := by
  intro l
  have : ∀ r : List UInt8, p r.reverse := by
    intro r
    induction r with
    | nil => exact h0
    | cons c r ih => rw [List.reverse_cons]; exact h1 _ _ ih
  have := this l.reverse
  rwa [List.reverse_reverse] at this
theorem bitAt_up (v d q : Nat) (hd : d ≤ 1) : bitAt (2 * v + d) (q + 1) = bitAt v q := by
  unfold bitAt
  have e : (2 * v + d) / 2 ^ (q + 1) = v / 2 ^ q := by
    rw [Nat.pow_succ, Nat.mul_comm (2 ^ q) 2, ← Nat.div_div_eq_div_mul]
    congr 1; omega
  rw [e]
theorem bits_val (t : List UInt8) : rowB t = true → bitsHead (val t) t.length t.length = t := by
  refine list_snoc_ind (p := fun t => rowB t = true → bitsHead (val t) t.length t.length = t) (fun _ => rfl) ?_ t
  intro t c ih h
  rw [rowB_snoc] at h
  simp only [Bool.and_eq_true] at h
  have hd := (bit_dig h.2).1
  rw [val_snoc, List.length_append, List.length_singleton, bitsHead_succ]
  have e1 : bitsHead (2 * val t + dig c) (t.length + 1) t.length = bitsHead (val t) t.length t.length := by
    unfold bitsHead
    apply List.map_congr_left
    intro i hi
    have hi' : i < t.length := by simpa using hi
    have : t.length + 1 - 1 - i = (t.length - 1 - i) + 1 := by omega
    rw [this, bitAt_up _ _ _ hd]
  have e2 : bitAt (2 * val t + dig c) (t.length + 1 - 1 - t.length) = c := by
    have : t.length + 1 - 1 - t.length = 0 := by omega
    rw [this]
    unfold bitAt
    rcases (bit_iff c).1 h.2 with hc | hc
    · have : c = 48 := UInt8.toNat_inj.1 (by show c.toNat = 48; omega)
      subst this
      have : dig 48 = 0 := rfl
      rw [this, if_neg (by simp)]
    · have : c = 49 := UInt8.toNat_inj.1 (by show c.toNat = 49; omega)
      subst this
      have : dig 49 = 1 := rfl
      rw [this, if_pos (by simp)]
  rw [e1, e2, ih h.1]
/-- a row of s bits is the row of v if it tells v -/
theorem row_is (t : List UInt8) (v s : Nat) (h : rowB t = true) (hl : t.length = s) (hv : v < 2 ^ s) : t = bitsHead v s s ↔ val t = v := by
  constructor
  · intro e; rw [e, val_row v s hv]
  · intro e; rw [← e, ← hl, bits_val t h]
end Bw
end Go.Proofs.YtopoogdoepdedaaDoor
