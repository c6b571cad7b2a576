/- A counter and a sum in bytes: plain definitions; of no program. -/
import Derived.Test.YtopoogdoepdedaaDoorSumRow
import Derived.Test.YtopoogdoepdedaaDoorCrcSees
namespace Go.Proofs.YtopoogdoepdedaaDoor
open Go.ChangeShapes Go.WideShapes Go.ChangeAt Go.RowKit
namespace Bw
open Bm Cm
/-- the bits of a key's two bytes and of the data's bytes but the first -/
def gRow (key : Nat) (l : List UInt8) : List UInt8 := bitsHead key 16 16 ++ ofL (l.drop 1)
/-- the sum of them -/
def gSum (key : Nat) (l : List UInt8) : Nat := sumV 3 (gRow key l)
theorem gRow_row (key : Nat) (l : List UInt8) : rowB (gRow key l) = true := by
  unfold gRow
  rw [rowB_append, bitsHead_row, ofL_row]
  rfl
theorem gRow_len (key : Nat) (l : List UInt8) : (gRow key l).length = 16 + 8 * (l.length - 1) := by
  unfold gRow
  rw [List.length_append, bitsHead_length, ofL_length, List.length_drop]
theorem gSum_lt (key : Nat) (l : List UInt8) : gSum key l < 256 := sumV_lt 3 (by omega) _
theorem gSum_val (key : Nat) (l : List UInt8) : val (sumL 3 (gRow key l)) = gSum key l := sumL_val 3 (by omega) _
/-- the counter in a byte -/
def ctr (c n : Nat) : Nat := c / 16 * 16 + n
theorem ctr_lt {c n : Nat} (hc : c < 256) (hn : n < 16) : ctr c n < 256 := by unfold ctr; omega
theorem ctr_mod {c n : Nat} (hn : n < 16) : ctr c n % 16 = n := by unfold ctr; omega
/-- the data with the counter in it -/
def cntL (n : Nat) (l : List UInt8) : List UInt8 := l.set 1 (UInt8.ofNat (ctr (l.getD 1 0).toNat n))
/-- what is put in -/
def putL (key n : Nat) (l : List UInt8) : List UInt8 := (cntL n l).set 0 (UInt8.ofNat (gSum key (cntL n l)))
theorem cntL_len (n : Nat) (l : List UInt8) : (cntL n l).length = l.length := by simp [cntL]
theorem putL_len (key n : Nat) (l : List UInt8) : (putL key n l).length = l.length := by simp [putL, cntL_len]
theorem getD_set_self {l : List UInt8} {i : Nat} (h : i < l.length) (c : UInt8) : (l.set i c).getD i 0 = c := by
  simp only [List.getD, List.getElem?_set_self h, Option.getD_some]
theorem getD_set_ne {l : List UInt8} {i j : Nat} (h : i ≠ j) (c : UInt8) : (l.set i c).getD j 0 = l.getD j 0 := by
  simp only [List.getD, List.getElem?_set_ne h]
theorem ofNat_to {n : Nat} (h : n < 256) : (UInt8.ofNat n).toNat = n := UInt8.toNat_ofNat_of_lt' h
theorem drop_set0 (l : List UInt8) (c : UInt8) : (l.set 0 c).drop 1 = l.drop 1 := by cases l <;> simp
theorem gSum_set0 (key : Nat) (l : List UInt8) (c : UInt8) : gSum key (l.set 0 c) = gSum key l := by unfold gSum gRow; rw [drop_set0]
theorem cntL_at {l : List UInt8} (h : 2 ≤ l.length) {n : Nat} (hn : n < 16) : ((cntL n l).getD 1 0).toNat = ctr (l.getD 1 0).toNat n := by
  unfold cntL
  rw [getD_set_self (by omega), ofNat_to (ctr_lt (UInt8.toNat_lt _) hn)]
theorem putL_at1 {l : List UInt8} (h : 2 ≤ l.length) (key : Nat) {n : Nat} (hn : n < 16) : ((putL key n l).getD 1 0).toNat = ctr (l.getD 1 0).toNat n := by
  unfold putL
  rw [getD_set_ne (by omega), cntL_at h hn]
theorem putL_at0 {l : List UInt8} (h : 2 ≤ l.length) (key n : Nat) : ((putL key n l).getD 0 0).toNat = gSum key (putL key n l) := by
  unfold putL
  rw [getD_set_self (by rw [cntL_len]; omega), gSum_set0, ofNat_to (gSum_lt _ _)]
/-- one byte that is another one gives another sum -/
theorem sum_apart {s p f : Nat} (hs : s = 8) (hp : p < 2 ^ s) (hodd : (2 ^ s + p) % 2 = 1) (hf : f < 2 ^ s) (A B B' C : List UInt8) (hA : rowB A = true) (hB : rowB B = true) (hB' : rowB B' = true) (hC : rowB C = true) (hl : B.length = 8) (hl' : B'.length = 8)
    (h : crcR s p f (A ++ (B ++ C)) = crcR s p f (A ++ (B' ++ C))) : val B = val B' := by
  subst hs
  have r1 : rowB (A ++ (B ++ C)) = true := by rw [rowB_append, rowB_append, hA, hB, hC]; rfl
  have r2 : rowB (A ++ (B' ++ C)) = true := by rw [rowB_append, rowB_append, hA, hB', hC]; rfl
  have m1 := crc_is 8 p f (by omega) hp hf _ r1
  have m2 := crc_is 8 p f (by omega) hp hf _ r2
  rw [← h] at m2
  have m3 := m1.xor m2
  rw [xor4, Nat.xor_self, Nat.zero_xor] at m3
  have m3' : Mul (2 ^ 8 + p) (crcT 8 f (A ++ (B ++ C)) ^^^ crcT 8 f (A ++ (B' ++ C))) := m3
  unfold crcT at m3'
  have hlen : (A ++ (B ++ C)).length = (A ++ (B' ++ C)).length := by simp [hl, hl']
  rw [hlen, xor4, Nat.xor_self, Nat.xor_zero, ← shift_xor] at m3'
  have m4 := m3'.unshift hodd 8
  have e1 : val (A ++ (B ++ C)) = val A * 2 ^ (8 + C.length) ^^^ (val B * 2 ^ C.length ^^^ val C) := by
    have hb : val (B ++ C) < 2 ^ (8 + C.length) := by
      have := val_lt (B ++ C) (by rw [rowB_append, hB, hC]; rfl)
      rw [List.length_append, hl] at this
      exact this
    rw [val_append, List.length_append, hl, hi_xor _ _ _ hb, val_append, hi_xor _ _ _ (val_lt C hC)]
  have e2 : val (A ++ (B' ++ C)) = val A * 2 ^ (8 + C.length) ^^^ (val B' * 2 ^ C.length ^^^ val C) := by
    have hb : val (B' ++ C) < 2 ^ (8 + C.length) := by
      have := val_lt (B' ++ C) (by rw [rowB_append, hB', hC]; rfl)
      rw [List.length_append, hl'] at this
      exact this
    rw [val_append, List.length_append, hl', hi_xor _ _ _ hb, val_append, hi_xor _ _ _ (val_lt C hC)]
  rw [e1, e2, xor4, Nat.xor_self, Nat.zero_xor, xor4, Nat.xor_self, Nat.xor_zero, ← shift_xor] at m4
  have m5 := m4.unshift hodd C.length
  have b1 := val_lt B hB
  have b2 := val_lt B' hB'
  rw [hl] at b1
  rw [hl'] at b2
  exact m5.uniq (s := 8) (by omega) (by rw [Nat.pow_succ]; omega) b1 b2
theorem ofL_split (l : List UInt8) (i : Nat) (h : i < l.length) : ofL l = ofL (l.take i) ++ (bitsHead (l.getD i 0).toNat 8 8 ++ ofL (l.drop (i + 1))) := by
  have e : l = l.take i ++ (l.getD i 0 :: l.drop (i + 1)) := by
    conv => lhs; rw [← List.take_append_drop i l]
    rw [List.drop_eq_getElem_cons h]
    simp [List.getD, h]
  conv => lhs; rw [e]
  unfold ofL
  rw [List.flatMap_append, List.flatMap_cons]
theorem set_take : ∀ (l : List UInt8) (j : Nat) (c : UInt8), (l.set j c).take j = l.take j
  | [], _, _ => rfl
  | _ :: _, 0, _ => rfl
  | x :: l, j + 1, c => by rw [List.set_cons_succ, List.take_succ_cons, List.take_succ_cons, set_take l j c]
theorem set_drop : ∀ (l : List UInt8) (j : Nat) (c : UInt8), (l.set j c).drop (j + 1) = l.drop (j + 1)
  | [], _, _ => rfl
  | _ :: _, 0, _ => rfl
  | x :: l, j + 1, c => by rw [List.set_cons_succ, List.drop_succ_cons, List.drop_succ_cons, set_drop l j c]
/-- a byte behind the first that is another one: another sum -/
theorem gSum_apart (key : Nat) (l : List UInt8) (i : Nat) (c : UInt8) (h1 : 1 ≤ i) (hi : i < l.length) (hc : c ≠ l.getD i 0) : gSum key (l.set i c) ≠ gSum key l := by
  intro h
  obtain ⟨j, rfl⟩ : ∃ j, i = j + 1 := ⟨i - 1, by omega⟩
  have hj : j < (l.drop 1).length := by rw [List.length_drop]; omega
  have e1 : (l.set (j + 1) c).drop 1 = (l.drop 1).set j c := by
    cases l with
    | nil => simp at hi
    | cons x t => simp
  have e2 : (l.drop 1).getD j 0 = l.getD (j + 1) 0 := by
    cases l with
    | nil => simp at hi
    | cons x t => simp [List.getD]
  have hj' : j < ((l.drop 1).set j c).length := by simpa using hj
  unfold gSum sumV gRow at h
  rw [e1] at h
  have h2 := congrArg (· ^^^ kE 3) h
  simp only [Nat.xor_assoc, Nat.xor_self, Nat.xor_zero] at h2
  rw [ofL_split _ j hj', ofL_split _ j hj, getD_set_self hj, e2] at h2
  rw [set_take (l.drop 1) j c, set_drop (l.drop 1) j c] at h2
  rw [← List.append_assoc (bitsHead key 16 16), ← List.append_assoc (bitsHead key 16 16)] at h2
  have h3 := sum_apart (s := kS 3) (p := kP 3) (f := kF 3) rfl (kinds_ok 3 (by omega)).2.2.2.1 (kinds_odd 3 (by omega)) (kinds_ok 3 (by omega)).2.2.2.2.1 (bitsHead key 16 16 ++ ofL ((l.drop 1).take j)) (bitsHead c.toNat 8 8) (bitsHead (l.getD (j + 1) 0).toNat 8 8) (ofL ((l.drop 1).drop (j + 1))) (by rw [rowB_append, bitsHead_row, ofL_row]; rfl) (bitsHead_row _ _ _) (bitsHead_row _ _ _) (ofL_row _) (bitsHead_length _ _ _) (bitsHead_length _ _ _) h2
  rw [val_row _ _ (UInt8.toNat_lt _), val_row _ _ (UInt8.toNat_lt _)] at h3
  exact hc (UInt8.toNat_inj.1 h3)
/-- a key's bits are those of its two bytes -/
theorem key_bits {key : Nat} (h : key < 65536) : bitsHead key 16 16 = bitsHead (key / 256) 8 8 ++ bitsHead (key % 256) 8 8 := by
  have r1 : rowB (bitsHead (key / 256) 8 8 ++ bitsHead (key % 256) 8 8) = true := by rw [rowB_append, bitsHead_row, bitsHead_row]; rfl
  have hl : (bitsHead (key / 256) 8 8 ++ bitsHead (key % 256) 8 8).length = 16 := by simp [bitsHead_length]
  exact ((row_is _ key 16 r1 hl (by omega)).2 (by rw [val_append, val_row _ _ (by omega), val_row _ _ (by omega), bitsHead_length]; omega)).symm
theorem key_row {key : Nat} (h : key < 65536) (l : List UInt8) : ofL (UInt8.ofNat (key / 256) :: UInt8.ofNat (key % 256) :: l.drop 1) = gRow key l := by
  unfold gRow
  rw [key_bits h, ofL_cons, ofL_cons, ofNat_to (by omega), ofNat_to (by omega), List.append_assoc]
end Bw
end Go.Proofs.YtopoogdoepdedaaDoor
