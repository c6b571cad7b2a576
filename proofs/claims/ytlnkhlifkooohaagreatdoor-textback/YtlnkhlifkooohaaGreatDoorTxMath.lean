/- Messages as lines of words: plain definitions; of no program. -/
import Derived.Test.YtlnkhlifkooohaaGreatDoorMsgMath
import Derived.Lib.Join
import Derived.Lib.ItoaNum
namespace Go.Proofs.YtlnkhlifkooohaaGreatDoor
open Go.ChangeShapes Go.WideShapes Go.ChangeAt Go.RowKit
namespace Bw
open Sm
/-- bytes as a text -/
def bA (l : List UInt8) : ByteArray := ⟨l.toArray⟩
theorem bA_list (l : List UInt8) : (bA l).data.toList = l := by simp [bA]
theorem bA_of (b : ByteArray) : bA b.data.toList = b := by cases b; simp [bA]
theorem bA_size (l : List UInt8) : (bA l).size = l.length := by simp [bA, ByteArray.size]
theorem bA_add (a b : List UInt8) : bA a ++ bA b = bA (a ++ b) := by
  apply ByteArray.ext
  simp [bA]
theorem bA_inj {a b : List UInt8} (h : bA a = bA b) : a = b := by rw [← bA_list a, h, bA_list]
def lxL (m : Msg) : List UInt8 := Lib.itoa m.id ++ (if m.lo = true then [120] else [])
def chL (m : Msg) : List UInt8 := if 0 ≤ m.ch then (m.at m.ch.toNat).nm.data.toList else [45]
/-- the words of a message's line -/
def wordsM (m : Msg) : List (List UInt8) := [[109, 101, 115, 115, 97, 103, 101], m.nm.data.toList, lxL m, Lib.itoa m.size, chL m]
def bkL (s : Sig) : List UInt8 := if s.bk = true then [62] else [60]
def sgL (s : Sig) : List UInt8 := if s.sg = true then [45] else [43]
def plL (s : Sig) : List UInt8 := Lib.itoa s.st ++ [58] ++ Lib.itoa s.sz ++ bkL s ++ sgL s
def faL (s : Sig) : List UInt8 := Lib.itoa s.mu ++ [47] ++ Lib.itoa s.di
def kyT (s : Sig) : List UInt8 := if 0 ≤ s.ky then Lib.itoa s.ky else [45]
/-- the words of a signal's line -/
def wordsS (s : Sig) : List (List UInt8) := [[115, 105, 103, 110, 97, 108], s.nm.data.toList, plL s, faL s, Lib.itoa s.ad, kyT s]
def lineL (ws : List (List UInt8)) : List UInt8 := Lib.join ws [32] ++ [10]
def sigsT (l : List Sig) : List UInt8 := l.flatMap fun s => lineL (wordsS s)
def msgT (m : Msg) : List UInt8 := lineL (wordsM m) ++ sigsT m.sigs
/-- the text of messages -/
def textT (l : List Msg) : List UInt8 := l.flatMap msgT
theorem sigsT_snoc (l : List Sig) (s : Sig) : sigsT (l ++ [s]) = sigsT l ++ lineL (wordsS s) := by simp [sigsT]
theorem textT_snoc (l : List Msg) (m : Msg) : textT (l ++ [m]) = textT l ++ msgT m := by simp [textT]
theorem nDig_le : ∀ (k u : Nat), u < 10 ^ k → 0 < k → Lib.nDigits u ≤ k
  | 0, u, _, hk => absurd hk (Nat.lt_irrefl _)
  | k + 1, u, h, _ => by
    by_cases h10 : u < 10
    · rw [Lib.nDigits_small h10]; omega
    · rw [Lib.nDigits_big h10]
      have h2 : u / 10 < 10 ^ k := by rw [Nat.pow_succ] at h; omega
      have h3 : 0 < k := by
        rcases Nat.eq_zero_or_pos k with e | e
        · subst e; simp at h2; omega
        · exact e
      have := nDig_le k (u / 10) h2 h3
      omega
/-- a number of at most ten digits -/
theorem itoa_len {n : Int} (h0 : -10000000000 < n) (h1 : n < 10000000000) : (Lib.itoa n).length ≤ 11 := by
  unfold Lib.itoa
  split
  · rw [List.length_cons, Lib.decDigits_length]
    have := nDig_le 10 n.natAbs (by omega) (by omega)
    omega
  · rw [Lib.decDigits_length]
    have := nDig_le 10 n.toNat (by omega) (by omega)
    omega
theorem itoa_pos (n : Int) : 1 ≤ (Lib.itoa n).length := by
  unfold Lib.itoa
  split
  · simp
  · rw [Lib.decDigits_length]; exact Lib.nDigits_pos _
end Bw
end Go.Proofs.YtlnkhlifkooohaaGreatDoor
