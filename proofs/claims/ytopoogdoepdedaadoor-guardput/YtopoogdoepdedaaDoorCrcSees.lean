/- Plain facts on sums: they are seen to differ by bits that are turned within as many in a row as the sum has, and three rows turned by one another have their sums so turned; of no program. -/
import Derived.Test.YtopoogdoepdedaaDoorCrcReg
namespace Go.Proofs.YtopoogdoepdedaaDoor.Cm
open Bm

theorem hi_xor (a v s : Nat) (h : v < 2 ^ s) : a * 2 ^ s + v = a * 2 ^ s ^^^ v := by
  have hp := Nat.two_pow_pos s
  have h1 : (a * 2 ^ s ^^^ v) % 2 ^ s = v := by
    rw [Nat.xor_mod_two_pow, Nat.mul_mod_left, Nat.zero_xor, Nat.mod_eq_of_lt h]
  have h2 : (a * 2 ^ s ^^^ v) / 2 ^ s = a := by
    rw [Nat.xor_div_two_pow, Nat.mul_div_cancel _ hp, Nat.div_eq_of_lt h, Nat.xor_zero]
  have := Nat.div_add_mod (a * 2 ^ s ^^^ v) (2 ^ s)
  rw [h1, h2, Nat.mul_comm] at this
  exact this

/-- a bit turned by another one -/
def xorB (c d : UInt8) : UInt8 := if d = 49 then c ^^^ 1 else c
def xorL : List UInt8 → List UInt8 → List UInt8
  | c :: a, d :: b => xorB c d :: xorL a b
  | _, _ => []
theorem bit_is {c : UInt8} (h : bit c = true) : c = 48 ∨ c = 49 := by
  rcases (bit_iff c).1 h with h | h
  · exact .inl (UInt8.toNat_inj.1 (by show c.toNat = 48; omega))
  · exact .inr (UInt8.toNat_inj.1 (by show c.toNat = 49; omega))
theorem xorB_bit {c d : UInt8} (hc : bit c = true) (hd : bit d = true) : bit (xorB c d) = true ∧ dig (xorB c d) = dig c ^^^ dig d := by
  rcases bit_is hc with rfl | rfl <;> rcases bit_is hd with rfl | rfl <;> decide
theorem xorL_len : ∀ (a b : List UInt8), a.length = b.length → (xorL a b).length = a.length
  | [], [], _ => rfl
  | [], _ :: _, h => by cases h
  | _ :: _, [], h => by cases h
  | c :: a, d :: b, h => by rw [xorL, List.length_cons, List.length_cons, xorL_len a b (by simpa using h)]
theorem row_cons {c : UInt8} {a : List UInt8} (h : rowB (c :: a) = true) : bit c = true ∧ rowB a = true := by simpa [rowB] using h
theorem xorL_row : ∀ (a b : List UInt8), a.length = b.length → rowB a = true → rowB b = true → rowB (xorL a b) = true
  | [], [], _, _, _ => rfl
  | [], _ :: _, h, _, _ => by cases h
  | _ :: _, [], h, _, _ => by cases h
  | c :: a, d :: b, h, ha, hb => by
    have h1 := row_cons ha
    have h2 := row_cons hb
    have h3 := xorL_row a b (by simpa using h) h1.2 h2.2
    have h4 := (xorB_bit h1.1 h2.1).1
    simp only [rowB] at h3
    simp [xorL, rowB, h4, h3]
theorem xorL_val : ∀ (a b : List UInt8), a.length = b.length → rowB a = true → rowB b = true → val (xorL a b) = val a ^^^ val b
  | [], [], _, _, _ => rfl
  | [], _ :: _, h, _, _ => by cases h
  | _ :: _, [], h, _, _ => by cases h
  | c :: a, d :: b, h, ha, hb => by
    have hl : a.length = b.length := by simpa using h
    have h1 := row_cons ha
    have h2 := row_cons hb
    have h3 := xorL_val a b hl h1.2 h2.2
    have l1 := val_lt _ h1.2
    have l2 := val_lt _ h2.2
    have l3 := val_lt _ (xorL_row a b hl h1.2 h2.2)
    rw [xorL_len a b hl] at l3
    rw [xorL, val_cons, val_cons, val_cons, xorL_len a b hl, (xorB_bit h1.1 h2.1).2, ← hl]
    rw [← hl] at l2
    rw [hi_xor _ _ _ l3, hi_xor _ _ _ l1, hi_xor _ _ _ l2, h3, shift_xor, xor4]

theorem step_lin3 (s p r1 r2 r3 b1 b2 b3 : Nat) (hs : 1 ≤ s) (hp : p < 2 ^ s) (h1 : r1 < 2 ^ s) (h2 : r2 < 2 ^ s) (h3 : r3 < 2 ^ s) (g1 : b1 ≤ 1) (g2 : b2 ≤ 1) (g3 : b3 ≤ 1) :
    crcStep s p (r1 ^^^ r2 ^^^ r3) (b1 ^^^ b2 ^^^ b3) = crcStep s p r1 b1 ^^^ crcStep s p r2 b2 ^^^ crcStep s p r3 b3 := by
  have hb : b1 ^^^ b2 ^^^ b3 ≤ 1 := by
    have : b1 ^^^ b2 ^^^ b3 < 2 ^ 1 := lt_xor (lt_xor (by omega) (by omega)) (by omega)
    omega
  have m0 := step_mul s p (r1 ^^^ r2 ^^^ r3) (b1 ^^^ b2 ^^^ b3) hs hp (lt_xor (lt_xor h1 h2) h3) hb
  have m1 := step_mul s p r1 b1 hs hp h1 g1
  have m2 := step_mul s p r2 b2 hs hp h2 g2
  have m3 := step_mul s p r3 b3 hs hp h3 g3
  have l1 := crcStep_lt s p r1 b1 hp
  have l2 := crcStep_lt s p r2 b2 hp
  have l3 := crcStep_lt s p r3 b3 hp
  have l0 := crcStep_lt s p (r1 ^^^ r2 ^^^ r3) (b1 ^^^ b2 ^^^ b3) hp
  apply Mul.uniq (d := 2 ^ s + p) (s := s) (by omega) (by rw [Nat.pow_succ]; omega) l0 (lt_xor (lt_xor l1 l2) l3)
  refine m0.tr ?_
  have m := (m1.xor m2).xor m3
  rw [xor4 (crcStep s p r1 b1), xor4 (crcStep s p r1 b1 ^^^ crcStep s p r2 b2)] at m
  rw [Nat.xor_comm] at m
  have e : (2 * r1 ^^^ b1 * 2 ^ s) ^^^ (2 * r2 ^^^ b2 * 2 ^ s) ^^^ (2 * r3 ^^^ b3 * 2 ^ s) = 2 * (r1 ^^^ r2 ^^^ r3) ^^^ (b1 ^^^ b2 ^^^ b3) * 2 ^ s := by
    rw [two_xor, two_xor, shift_xor, shift_xor, xor4 (2 * r1), xor4 (2 * r1 ^^^ 2 * r2)]
  rw [e] at m
  exact m
theorem crc_lin3 (s p : Nat) (hs : 1 ≤ s) (hp : p < 2 ^ s) : ∀ (a b c : List UInt8) (r1 r2 r3 : Nat), a.length = b.length → b.length = c.length → rowB a = true → rowB b = true → rowB c = true → r1 < 2 ^ s → r2 < 2 ^ s → r3 < 2 ^ s →
    crcR s p (r1 ^^^ r2 ^^^ r3) (xorL (xorL a b) c) = crcR s p r1 a ^^^ crcR s p r2 b ^^^ crcR s p r3 c
  | [], [], [], _, _, _, _, _, _, _, _, _, _, _ => rfl
  | [], _ :: _, _, _, _, _, h, _, _, _, _, _, _, _ => by cases h
  | _ :: _, [], _, _, _, _, h, _, _, _, _, _, _, _ => by cases h
  | [], [], _ :: _, _, _, _, _, h, _, _, _, _, _, _ => by cases h
  | _ :: _, _ :: _, [], _, _, _, _, h, _, _, _, _, _, _ => by cases h
  | x :: a, y :: b, z :: c, r1, r2, r3, h1, h2, ha, hb, hc, l1, l2, l3 => by
    have ka := row_cons ha
    have kb := row_cons hb
    have kc := row_cons hc
    have k1 := xorB_bit ka.1 kb.1
    have k2 := xorB_bit k1.1 kc.1
    rw [xorL, xorL, crcR_cons, crcR_cons, crcR_cons, crcR_cons, k2.2, k1.2, step_lin3 s p r1 r2 r3 _ _ _ hs hp l1 l2 l3 (bit_dig ka.1).1 (bit_dig kb.1).1 (bit_dig kc.1).1]
    exact crc_lin3 s p hs hp a b c _ _ _ (by simpa using h1) (by simpa using h2) ka.2 kb.2 kc.2 (crcStep_lt s p r1 _ hp) (crcStep_lt s p r2 _ hp) (crcStep_lt s p r3 _ hp)
theorem xor3_self (f : Nat) : f ^^^ f ^^^ f = f := by rw [Nat.xor_self, Nat.zero_xor]

/-- a row whose last bits are its sum: its number is, but for a multiple, one that its length alone tells -/
theorem holds_mul (s p f en : Nat) (hs : 1 ≤ s) (hp : p < 2 ^ s) (hf : f < 2 ^ s) (l t : List UInt8) (hl : rowB l = true) (ht : rowB t = true) (hts : t.length = s) (h : val t = crcR s p f l ^^^ en) :
    Mul (2 ^ s + p) (val (l ++ t) ^^^ (f * 2 ^ l.length ^^^ en)) := by
  have hv := val_lt _ ht
  rw [hts] at hv
  have h1 := crc_is s p f hs hp hf l hl
  have e : val (l ++ t) ^^^ (f * 2 ^ l.length ^^^ en) = crcR s p f l ^^^ crcT s f l := by
    rw [val_append, hts, hi_xor _ _ _ hv, h]
    unfold crcT
    rw [xor4 (val l * 2 ^ s), Nat.xor_assoc (crcR s p f l), Nat.xor_self, Nat.xor_zero, Nat.xor_comm]
  rw [e]
  exact h1
/-- bits turned within as many in a row as the sum has are seen -/
theorem sees (s p f en : Nat) (hs : 1 ≤ s) (hp : p < 2 ^ s) (hodd : (2 ^ s + p) % 2 = 1) (hf : f < 2 ^ s) (l t l' t' : List UInt8) (hl : rowB l = true) (ht : rowB t = true) (hl' : rowB l' = true) (ht' : rowB t' = true)
    (hll : l.length = l'.length) (hts : t.length = s) (hts' : t'.length = s) (h : val t = crcR s p f l ^^^ en) (q k : Nat) (hq0 : q ≠ 0) (hq : q < 2 ^ s) (hx : val (l ++ t) ^^^ val (l' ++ t') = q * 2 ^ k) :
    val t' ≠ crcR s p f l' ^^^ en := by
  intro h'
  have m1 := holds_mul s p f en hs hp hf l t hl ht hts h
  have m2 := holds_mul s p f en hs hp hf l' t' hl' ht' hts' h'
  rw [← hll, Nat.xor_comm] at m2
  have m := m1.tr m2
  rw [hx] at m
  exact hq0 (Mul.small (by omega) (by rw [Nat.pow_succ]; omega) hq (m.unshift hodd k))
end Go.Proofs.YtopoogdoepdedaaDoor.Cm
