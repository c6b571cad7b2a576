/- Frames as plain data: which are right, their names, heads and bits, as lists of bytes; of no program. -/
import Derived.Test.YtgjkioknnjbjfaaDoorFrameTop
import Derived.Test.YtgjkioknnjbjfaaDoorSumRow
import Derived.Test.YtgjkioknnjbjfaaDoorStuffMath
namespace Go.Proofs.YtgjkioknnjbjfaaDoor
namespace Bw
open Bm Cm

structure Fr where
  id : Int
  lo : Bool
  fa : Bool
  re : Bool
  sz : Int
  dt : List UInt8

def frE (f : Fr) : Int := frEn f.id f.lo f.fa f.re f.sz f.dt.length
def bitB (r : Bool) : UInt8 := if r then 49 else 48
def nameL (f : Fr) : List UInt8 :=
  if f.lo then (bitsHead f.id.toNat 29 29).take 11 ++ [49, 49] ++ (bitsHead f.id.toNat 29 29).drop 11 ++ [bitB f.re]
  else bitsHead f.id.toNat 11 11 ++ [bitB f.re, 48]
def midL (f : Fr) : List UInt8 := if f.fa then [49, 48, 49, 48] else if f.lo then [48, 48] else [48]
/-- the number of four bits that tells how many bytes there are -/
def codeN (f : Fr) : Nat := if f.re then f.sz.toNat else sizesL.idxOf f.dt.length
def headL (f : Fr) : List UInt8 := [48] ++ nameL f ++ midL f ++ bitsHead (codeN f) 4 4 ++ ofL f.dt
def grayL (n : Nat) : List UInt8 := [[48, 48, 48, 48], [48, 48, 49, 49], [48, 49, 49, 48], [48, 49, 48, 49], [49, 49, 48, 48], [49, 49, 49, 49], [49, 48, 49, 48], [49, 48, 48, 49]].getD n []
def endK (n : Nat) : Nat := if 16 < n then 2 else 1
/-- the count and the sum of a fast one, before the fixed bits are put in -/
def tailL (h p : List UInt8) (n : Nat) : List UInt8 := grayL ((p.length - h.length) % 8) ++ sumL (endK n) (p ++ grayL ((p.length - h.length) % 8))
def fixL (l : List UInt8) (a : UInt8) : List UInt8 := fixR l a l.length
def lastB (p : List UInt8) : UInt8 := p.getD (p.length - 1) 0
def fastL (h p : List UInt8) (n : Nat) : List UInt8 := fixL (tailL h p n) (lastB p)
def onesL : List UInt8 := [49, 49, 49, 49, 49, 49, 49, 49, 49, 49]
def bitsL (f : Fr) : List UInt8 :=
  if f.fa then putF (headL f) ++ fastL (headL f) (putF (headL f)) f.dt.length ++ onesL
  else putF (headL f ++ sumL 0 (headL f)) ++ onesL

theorem bitB_bit (r : Bool) : bit (bitB r) = true := by cases r <;> rfl
theorem rowB_all {l : List UInt8} : rowB l = true ↔ ∀ c ∈ l, bit c = true := by simp [rowB]
theorem nameL_row (f : Fr) : rowB (nameL f) = true := by
  unfold nameL
  split
  · rw [rowB_append, rowB_append, rowB_append, rowB_take (bitsHead_row _ _ _), rowB_drop (bitsHead_row _ _ _)]
    simp [rowB, bitB_bit]; decide
  · rw [rowB_append, bitsHead_row]
    simp [rowB, bitB_bit]; decide
theorem nameL_len (f : Fr) : (nameL f).length = if f.lo then 32 else 13 := by
  unfold nameL
  split <;> simp [bitsHead_length]
theorem midL_row (f : Fr) : rowB (midL f) = true := by unfold midL; split <;> (try split) <;> rfl
theorem midL_len (f : Fr) : 1 ≤ (midL f).length ∧ (midL f).length ≤ 4 := by unfold midL; split <;> (try split) <;> simp
theorem headL_row (f : Fr) : rowB (headL f) = true := by
  unfold headL
  rw [rowB_append, rowB_append, rowB_append, rowB_append, nameL_row, midL_row, bitsHead_row, ofL_row]; rfl
theorem headL_len (f : Fr) : (headL f).length = 1 + (if f.lo then 32 else 13) + (midL f).length + 4 + 8 * f.dt.length := by
  unfold headL
  simp only [List.length_append, nameL_len, bitsHead_length, ofL_length, List.length_singleton]
theorem headL_le (f : Fr) (h : f.dt.length ≤ 64) : 19 ≤ (headL f).length ∧ (headL f).length ≤ 553 := by
  have h1 := headL_len f
  have h2 := midL_len f
  split at h1 <;> omega
theorem gray_row (n : Nat) (h : n < 8) : rowB (grayL n) = true ∧ (grayL n).length = 4 := by
  match n, h with
  | 0, _ => decide
  | 1, _ => decide
  | 2, _ => decide
  | 3, _ => decide
  | 4, _ => decide
  | 5, _ => decide
  | 6, _ => decide
  | 7, _ => decide
theorem endK_le (n : Nat) : endK n ≤ 4 := by unfold endK; split <;> omega
theorem tailL_row (h p : List UInt8) (n : Nat) : rowB (tailL h p n) = true := by
  unfold tailL
  rw [rowB_append, (gray_row _ (Nat.mod_lt _ (by omega))).1, sumL_row]; rfl
theorem tailL_len (h p : List UInt8) (n : Nat) : (tailL h p n).length = 4 + kS (endK n) := by
  unfold tailL
  rw [List.length_append, (gray_row _ (Nat.mod_lt _ (by omega))).2, sumL_len]
theorem tailL_le (h p : List UInt8) (n : Nat) : (tailL h p n).length ≤ 25 := by
  rw [tailL_len]
  unfold endK
  split
  · show 4 + 21 ≤ 25; omega
  · show 4 + 17 ≤ 25; omega
end Bw
end Go.Proofs.YtgjkioknnjbjfaaDoor
