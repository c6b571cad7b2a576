/- Facts that the walk of the document's own SumOf asks for: a big number at a block is one number; a step of the division makes it smaller. -/
import Derived.Test.YtopoogdoepdedaaDoorBigBit
import Derived.Test.YtopoogdoepdedaaDoorCrcReg
namespace Go.Proofs.YtopoogdoepdedaaDoor
open Go.ChangeShapes Go.WideShapes Go.ChangeAt Go.RowKit
namespace Ww
open Wm Bm Cm

theorem IsW.uniq {w : World} {v : Value} {xs ys : List Nat} (h : IsW w v xs) (k : IsW w v ys) : xs = ys := by
  obtain ⟨a, c, rfl, _, _, hn, hc, _⟩ := h
  obtain ⟨a', c', e, _, _, _, hc', _⟩ := k
  injection e with e1 e2 e3
  subst e1
  apply List.ext_getElem e2
  intro i h1 h2
  cases a with
  | none => have := hn rfl; omega
  | some p =>
    have g1 := hc p rfl i h1
    have g2 := hc' p rfl i h2
    rw [g1] at g2
    have g3 : (xs.getD i 0 : Int) = (ys.getD i 0 : Int) := by
      injection g2 with g2
      injection g2
    have g4 : xs.getD i 0 = ys.getD i 0 := by omega
    simpa [List.getD, h1, h2] using g4
theorem IsInt.uniq {w : World} {g n m : Nat} (h : IsInt w g n) (k : IsInt w g m) : n = m := by
  obtain ⟨va, xs, hh, hW, _, hv⟩ := h
  obtain ⟨vb, ys, hh', hW', _, hv'⟩ := k
  rw [hh] at hh'
  injection hh' with e
  injection e with e1
  have e2 : va = vb := by
    have := congrArg (fun z : Array Value => z[1]?) e1
    simpa using this
  subst e2
  rw [← hv, ← hv', hW.uniq hW']
open Classical in
noncomputable def valAt (w : World) (g : Nat) : Nat := if h : ∃ n, IsInt w g n then h.choose else 0
theorem valAt_eq {w : World} {g n : Nat} (h : IsInt w g n) : valAt w g = n := by
  unfold valAt
  have hx : ∃ n, IsInt w g n := ⟨n, h⟩
  rw [dif_pos hx]
  exact hx.choose_spec.uniq h

theorem len_uniq {n L K : Nat} (h1 : n < 2 ^ L) (h2 : L = 0 ∨ 2 ^ (L - 1) ≤ n) (k1 : n < 2 ^ K) (k2 : K = 0 ∨ 2 ^ (K - 1) ≤ n) : L = K := by
  have key : ∀ {a b : Nat}, n < 2 ^ a → (b = 0 ∨ 2 ^ (b - 1) ≤ n) → b ≤ a := by
    intro a b ha hb
    rcases hb with rfl | hb
    · omega
    · rcases Nat.lt_or_ge a b with h | h
      · have : 2 ^ a ≤ 2 ^ (b - 1) := Nat.pow_le_pow_right (by omega) (by omega)
        omega
      · exact h
  exact Nat.le_antisymm (key k1 h2) (key h1 k2)
/-- the highest bit goes out -/
theorem red_lt {n L s p : Nat} (h1 : n < 2 ^ L) (h2 : 2 ^ (L - 1) ≤ n) (hs : s < L) (hp : p < 2 ^ s) : n ^^^ ((2 ^ s + p) * 2 ^ (L - s - 1)) < 2 ^ (L - 1) := by
  obtain ⟨k, rfl⟩ : ∃ k, L = s + k + 1 := ⟨L - s - 1, by omega⟩
  have e : s + k + 1 - s - 1 = k := by omega
  rw [e] at *
  rw [show s + k + 1 - 1 = s + k by omega] at *
  have d1 : 2 ^ (s + k) ≤ (2 ^ s + p) * 2 ^ k := by rw [Nat.pow_add]; exact Nat.mul_le_mul_right _ (by omega)
  have d2 : (2 ^ s + p) * 2 ^ k < 2 ^ (s + k + 1) := by
    rw [show s + k + 1 = (s + 1) + k by omega, Nat.pow_add (m := s + 1)]
    exact Nat.mul_lt_mul_of_pos_right (by rw [Nat.pow_succ]; omega) (Nat.two_pow_pos k)
  have hx := top_split n (s + k) h1
  have hd := top_split ((2 ^ s + p) * 2 ^ k) (s + k) d2
  have q1 : n / 2 ^ (s + k) = 1 := by
    have a : 1 ≤ n / 2 ^ (s + k) := (Nat.le_div_iff_mul_le (Nat.two_pow_pos _)).2 (by omega)
    have b : n / 2 ^ (s + k) < 2 := Nat.div_lt_of_lt_mul (by rw [Nat.pow_succ] at h1; omega)
    omega
  have q2 : (2 ^ s + p) * 2 ^ k / 2 ^ (s + k) = 1 := by
    have a : 1 ≤ (2 ^ s + p) * 2 ^ k / 2 ^ (s + k) := (Nat.le_div_iff_mul_le (Nat.two_pow_pos _)).2 (by omega)
    have b : (2 ^ s + p) * 2 ^ k / 2 ^ (s + k) < 2 := Nat.div_lt_of_lt_mul (by rw [Nat.pow_succ] at d2; omega)
    omega
  rw [q1] at hx
  rw [q2] at hd
  rw [hx, hd, xor4, Nat.xor_self, Nat.xor_zero]
  exact lt_xor (Nat.mod_lt _ (Nat.two_pow_pos _)) (Nat.mod_lt _ (Nat.two_pow_pos _))
/-- and what is left differs from it by a multiple -/
theorem red_mul {n T L s p : Nat} (h : Mul (2 ^ s + p) (n ^^^ T)) : Mul (2 ^ s + p) ((n ^^^ ((2 ^ s + p) * 2 ^ (L - s - 1))) ^^^ T) := by
  have := h.xor (Mul.shift (2 ^ s + p) (L - s - 1))
  rw [Nat.xor_assoc, Nat.xor_comm T, ← Nat.xor_assoc] at this
  exact this
end Ww
end Go.Proofs.YtopoogdoepdedaaDoor
