/- The five kinds of sums: how many bits each has, its polynomial, what it starts from and what it is turned by at the end; the sum of a row by a kind; of no program. -/
import Derived.Test.YtopoogdoepdedaaDoorCrcReg
namespace Go.Proofs.YtopoogdoepdedaaDoor.Cm
open Bm

def kS (k : Nat) : Nat := [15, 17, 21, 8, 16].getD k 0
def kP (k : Nat) : Nat := [17817, 92251, 1058969, 47, 4129].getD k 0
def kF (k : Nat) : Nat := [0, 65536, 1048576, 255, 65535].getD k 0
def kE (k : Nat) : Nat := [0, 0, 0, 255, 0].getD k 0
def sumV (k : Nat) (l : List UInt8) : Nat := crcR (kS k) (kP k) (kF k) l ^^^ kE k
theorem kinds_ok (k : Nat) (h : k ≤ 4) : 8 ≤ kS k ∧ kS k ≤ 21 ∧ 1 ≤ kP k ∧ kP k < 2 ^ kS k ∧ kF k < 2 ^ kS k ∧ kE k < 2 ^ kS k ∧ kP k ≤ 1058969 ∧ kF k ≤ 1048576 ∧ kE k ≤ 255 := by
  match k, h with
  | 0, _ => decide
  | 1, _ => decide
  | 2, _ => decide
  | 3, _ => decide
  | 4, _ => decide
theorem kinds_odd (k : Nat) (h : k ≤ 4) : (2 ^ kS k + kP k) % 2 = 1 := by
  match k, h with
  | 0, _ => decide
  | 1, _ => decide
  | 2, _ => decide
  | 3, _ => decide
  | 4, _ => decide
theorem sumV_lt (k : Nat) (h : k ≤ 4) (l : List UInt8) : sumV k l < 2 ^ kS k := by
  obtain ⟨_, _, _, hp, hf, he, _⟩ := kinds_ok k h
  exact lt_xor (crcR_lt _ _ _ hp hf l) he
end Go.Proofs.YtopoogdoepdedaaDoor.Cm
