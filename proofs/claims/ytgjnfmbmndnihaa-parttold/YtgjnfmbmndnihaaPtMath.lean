/- Plain facts on messages in parts, as lists of bytes; of no program. -/
import Derived.WalkKit
namespace Go.Proofs.Ytgjnfmbmndnihaa
namespace Bw
/-- what is wrong with a message of so many bytes -/
def szP (n : Nat) : Int := if n = 0 then 7 else if 300 < n then 2 else 0
theorem szP_ok {n : Nat} (h : szP n = 0) : 1 ≤ n ∧ n ≤ 300 := by
  unfold szP at h
  split at h
  · omega
  · split at h <;> omega
theorem szP_yes {n : Nat} (h : 1 ≤ n) (h' : n ≤ 300) : szP n = 0 := by
  unfold szP; rw [if_neg (by omega), if_neg (by omega)]
/-- how many bytes go first -/
def inF (n : Nat) : Nat := if n ≤ 7 then n else 6
/-- the number of the next part when so many bytes went -/
def numN (k : Nat) : Nat := (1 + k / 7) % 16
theorem numN_lt (k : Nat) : numN k < 16 := Nat.mod_lt _ (by decide)
theorem numN_at (k : Nat) : numN (6 + 7 * k) = (k + 1) % 16 := by
  unfold numN
  rw [show (6 + 7 * k) / 7 = k by omega, Nat.add_comm]
/-- what the first part says of itself -/
def fpH (n : Nat) : List UInt8 := if n ≤ 7 then [UInt8.ofNat n] else [UInt8.ofNat (16 + n / 256), UInt8.ofNat (n % 256)]
/-- the first part -/
def fpL (l : List UInt8) : List UInt8 := fpH l.length ++ l.take (inF l.length)
/-- the next part from a byte on -/
def npL (l : List UInt8) (k : Nat) : List UInt8 := UInt8.ofNat (32 + numN k) :: (l.drop k).take 7
/-- how many next parts there are -/
def nxN (n : Nat) : Nat := if n ≤ 7 then 0 else n / 7
/-- all parts -/
def partsL (l : List UInt8) : List (List UInt8) := fpL l :: (List.range (nxN l.length)).map fun j => npL l (6 + 7 * j)
theorem inF_le (n : Nat) : inF n ≤ n := by unfold inF; split <;> omega
theorem fpL_len (l : List UInt8) (h : l.length ≤ 300) : (fpL l).length ≤ 8 := by
  unfold fpL fpH inF
  split
  · simp; omega
  · simp; omega
theorem npL_len (l : List UInt8) (k : Nat) : (npL l k).length = 1 + min 7 (l.length - k) := by
  unfold npL
  simp
  omega
theorem partsL_len (l : List UInt8) : (partsL l).length = 1 + nxN l.length := by
  unfold partsL; simp; omega
end Bw
end Go.Proofs.Ytgjnfmbmndnihaa
