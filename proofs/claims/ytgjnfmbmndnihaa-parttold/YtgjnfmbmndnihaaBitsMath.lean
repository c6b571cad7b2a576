/- Plain facts on rows of bits as lists of bytes, and on the numbers that they tell; of no program. -/
import Derived.WalkKit
namespace Go.Proofs.Ytgjnfmbmndnihaa.Bm

def bit (c : UInt8) : Bool := c == 48 || c == 49
def rowB (l : List UInt8) : Bool := l.all bit
def checkE (l : List UInt8) : Int := if 1000 < l.length then 2 else if rowB l then 0 else 4
def dig (c : UInt8) : Nat := c.toNat - 48
def val (l : List UInt8) : Nat := l.foldl (fun n c => 2 * n + dig c) 0

theorem bit_iff (c : UInt8) : bit c = true ↔ (c.toNat : Int) = 48 ∨ (c.toNat : Int) = 49 := by
  unfold bit
  have e1 : (c == 48) = decide ((c.toNat : Int) = 48) := by
    rw [Bool.eq_iff_iff]; simp [← UInt8.toNat_inj]; omega
  have e2 : (c == 49) = decide ((c.toNat : Int) = 49) := by
    rw [Bool.eq_iff_iff]; simp [← UInt8.toNat_inj]; omega
  rw [e1, e2]; simp

theorem bit_dig {c : UInt8} (h : bit c = true) : dig c ≤ 1 ∧ (dig c : Int) = (c.toNat : Int) - 48 := by
  rcases (bit_iff c).1 h with h | h <;> unfold dig <;> omega

theorem take_snoc (s : ByteArray) (k : Nat) (h : k < s.size) : s.data.toList.take (k + 1) = s.data.toList.take k ++ [s[k]] := by
  rw [List.take_succ_eq_append_getElem (by simpa using h)]; rfl

theorem rowB_append (a b : List UInt8) : rowB (a ++ b) = (rowB a && rowB b) := by simp [rowB]
theorem rowB_snoc (a : List UInt8) (c : UInt8) : rowB (a ++ [c]) = (rowB a && bit c) := by simp [rowB]
theorem rowB_take {l : List UInt8} (h : rowB l = true) (k : Nat) : rowB (l.take k) = true := by
  have e : rowB (l.take k ++ l.drop k) = true := by rw [List.take_append_drop]; exact h
  rw [rowB_append] at e; simp at e; exact e.1
theorem rowB_at {s : ByteArray} (h : rowB s.data.toList = true) (k : Nat) (hk : k < s.size) : bit s[k] = true := by
  unfold rowB at h
  rw [List.all_eq_true] at h
  exact h _ (by show s.data[k] ∈ _; simp)
theorem rowB_not {s : ByteArray} (k : Nat) (hk : k < s.size) (h : bit s[k] = false) : rowB s.data.toList = false := by
  cases e : rowB s.data.toList with
  | false => rfl
  | true => rw [rowB_at e k hk] at h; cases h

theorem val_nil : val [] = 0 := rfl
theorem val_snoc (a : List UInt8) (c : UInt8) : val (a ++ [c]) = 2 * val a + dig c := by simp [val]
theorem foldl_val (b : List UInt8) : ∀ n, b.foldl (fun n c => 2 * n + dig c) n = n * 2 ^ b.length + val b := by
  induction b with
  | nil => intro n; simp [val]
  | cons c b ih =>
    intro n
    have e : val (c :: b) = dig c * 2 ^ b.length + val b := by
      show b.foldl _ (2 * 0 + dig c) = _
      rw [ih]; simp
    rw [e, List.foldl_cons, ih, List.length_cons, Nat.pow_succ, Nat.add_mul]
    have : 2 * n * 2 ^ b.length = n * (2 ^ b.length * 2) := by
      rw [Nat.mul_comm 2 n, Nat.mul_assoc, Nat.mul_comm 2]
    omega
theorem val_append (a b : List UInt8) : val (a ++ b) = val a * 2 ^ b.length + val b := by
  unfold val
  rw [List.foldl_append, foldl_val]; rfl
theorem val_cons (c : UInt8) (b : List UInt8) : val (c :: b) = dig c * 2 ^ b.length + val b := by
  show b.foldl _ (2 * 0 + dig c) = _
  rw [foldl_val]; simp
theorem val_lt (l : List UInt8) (h : rowB l = true) : val l < 2 ^ l.length := by
  induction l with
  | nil => simp [val]
  | cons c b ih =>
    have h' : bit c = true ∧ rowB b = true := by simpa [rowB] using h
    have h1 := ih h'.2
    have h2 := (bit_dig h'.1).1
    rw [val_cons, List.length_cons, Nat.pow_succ]
    have : dig c * 2 ^ b.length ≤ 1 * 2 ^ b.length := Nat.mul_le_mul_right _ h2
    omega

end Go.Proofs.Ytgjnfmbmndnihaa.Bm
