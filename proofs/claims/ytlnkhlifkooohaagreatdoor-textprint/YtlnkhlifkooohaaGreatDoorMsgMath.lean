/- Messages as data: their errors, which signals are there, what is read and written; of no program. -/
import Derived.Test.YtlnkhlifkooohaaGreatDoorSgWrite
import Derived.Test.YtlnkhlifkooohaaGreatDoorSgOver
import Derived.Test.YtlnkhlifkooohaaGreatDoorFrameTop
namespace Go.Proofs.YtlnkhlifkooohaaGreatDoor
open Go.ChangeShapes Go.WideShapes Go.ChangeAt Go.RowKit
namespace Bw
open Sm
/-- a message as data -/
structure Msg where
  id : Int
  lo : Bool
  nm : ByteArray
  size : Int
  ch : Int
  sigs : List Sig
/-- a reading as data -/
structure Rd where
  nm : ByteArray
  num : Int
  den : Int
def noS : Sig := ⟨⟨#[]⟩, 0, 0, false, false, 0, 0, 0, 0⟩
def Msg.at (m : Msg) (i : Nat) : Sig := m.sigs.getD i noS
theorem Msg.mem (m : Msg) {i : Nat} (h : i < m.sigs.length) : m.at i ∈ m.sigs := by
  unfold Msg.at
  simp only [List.getD, List.getElem?_eq_getElem h, Option.getD_some]
  exact List.getElem_mem h
/-- the first that is not 0 -/
def firstE (f : Nat → Int) : Nat → Int
  | 0 => 0
  | k + 1 => if firstE f k = 0 then f k else firstE f k
theorem firstE_step {f : Nat → Int} {k : Nat} (h : firstE f k = 0) (hk : f k = 0) : firstE f (k + 1) = 0 := by
  simp only [firstE, h, hk, if_true]
theorem firstE_hit {f : Nat → Int} {k : Nat} (h : firstE f k = 0) (hk : f k ≠ 0) : ∀ {n : Nat}, k < n → firstE f n = f k
  | 0, hn => absurd hn (Nat.not_lt_zero _)
  | n + 1, hn => by
    by_cases e : n = k
    · subst e; simp only [firstE, h, if_true]
    · have := firstE_hit h hk (n := n) (by omega)
      simp only [firstE, this, if_neg hk]
theorem firstE_zero {f : Nat → Int} : ∀ {n : Nat}, firstE f n = 0 → ∀ i, i < n → f i = 0
  | 0, _, i, hi => absurd hi (Nat.not_lt_zero _)
  | n + 1, h, i, hi => by
    by_cases h0 : firstE f n = 0
    · simp only [firstE, h0, if_true] at h
      by_cases e : i = n
      · subst e; exact h
      · exact firstE_zero h0 i (by omega)
    · simp only [firstE, if_neg h0] at h
      exact absurd h h0
theorem firstE_all {f : Nat → Int} : ∀ {n : Nat}, (∀ i, i < n → f i = 0) → firstE f n = 0
  | 0, _ => rfl
  | n + 1, h => firstE_step (firstE_all (fun i hi => h i (by omega))) (h n (by omega))
theorem firstE_congr {f g : Nat → Int} : ∀ {n : Nat}, (∀ i, i < n → f i = g i) → firstE f n = firstE g n
  | 0, _ => rfl
  | n + 1, h => by
    simp only [firstE]
    rw [firstE_congr (n := n) (fun i hi => h i (by omega)), h n (by omega)]
def ovS (a b : Sig) : Bool := ovN a.bk a.st.toNat a.sz.toNat b.bk b.st.toNat b.sz.toNat
def nevB (a b : Sig) : Bool := decide (0 ≤ a.ky) && (decide (0 ≤ b.ky) && !(a.ky == b.ky))
def besE (a b : Sig) : Int := if a.nm = b.nm then 9 else if (ovS a b && !nevB a b) = true then 10 else 0
def sigE (m : Msg) (i : Nat) : Int := if chkS (m.at i) m.size = 0 then firstE (fun j => besE (m.at j) (m.at i)) i else chkS (m.at i) m.size
def sigsE (m : Msg) : Int := firstE (sigE m) m.sigs.length
def chooB (c : Sig) : Bool := !c.sg && (decide (c.ky < 0) && decide (c.sz ≤ 8))
def mostI (m : Msg) : Int := if 0 ≤ m.ch then ((2 ^ (m.at m.ch.toNat).sz.toNat : Nat) : Int) - 1 else -1
def wellB (m : Msg) : Bool := (decide (m.ch < 0) || chooB (m.at m.ch.toNat)) && !(m.sigs.any fun s => decide (mostI m < s.ky))
/-- the error of a message -/
def chkM (m : Msg) : Int :=
  if nameB m.nm.data.toList = false then 1
  else if frEn m.id m.lo false false 0 0 ≠ 0 then frEn m.id m.lo false false 0 0
  else if m.size < 0 ∨ 8 < m.size then 3
  else if 16 < m.sigs.length then 2
  else if sigsE m ≠ 0 then sigsE m
  else if m.ch < -1 ∨ (m.sigs.length : Int) ≤ m.ch then 8
  else if wellB m = false then 4 else 0
/-- a right message -/
structure OkM (m : Msg) : Prop where
  name : nameB m.nm.data.toList = true
  fr : frEn m.id m.lo false false 0 0 = 0
  size0 : 0 ≤ m.size
  size8 : m.size ≤ 8
  many : m.sigs.length ≤ 16
  sigs : sigsE m = 0
  ch0 : -1 ≤ m.ch
  ch1 : m.ch < (m.sigs.length : Int)
  well : wellB m = true
theorem chkM_ok {m : Msg} (h : chkM m = 0) : OkM m := by
  unfold chkM at h
  split at h
  · omega
  rename_i h1
  split at h
  · rename_i h2; exact absurd h h2
  rename_i h2
  split at h
  · omega
  rename_i h3
  split at h
  · omega
  rename_i h4
  split at h
  · rename_i h5; exact absurd h h5
  rename_i h5
  split at h
  · omega
  rename_i h6
  split at h
  · omega
  rename_i h7
  exact ⟨by simpa using h1, Decidable.not_not.1 h2, by omega, by omega, by omega, Decidable.not_not.1 h5, by omega, by omega, by simpa using h7⟩
theorem OkM.sig {m : Msg} (h : OkM m) {i : Nat} (hi : i < m.sigs.length) : chkS (m.at i) m.size = 0 := by
  have h1 := firstE_zero h.sigs i hi
  unfold sigE at h1
  split at h1
  · assumption
  · rename_i h2; exact absurd h1 h2
theorem OkM.bes {m : Msg} (h : OkM m) {i j : Nat} (hi : i < m.sigs.length) (hj : j < i) : besE (m.at j) (m.at i) = 0 := by
  have h1 := firstE_zero h.sigs i hi
  unfold sigE at h1
  rw [if_pos (h.sig hi)] at h1
  exact firstE_zero h1 j hj
theorem bes_parts {a b : Sig} (h : besE a b = 0) : a.nm ≠ b.nm ∧ (ovS a b = false ∨ nevB a b = true) := by
  unfold besE at h
  split at h
  · omega
  rename_i h1
  split at h
  · omega
  rename_i h2
  refine ⟨h1, ?_⟩
  cases ho : ovS a b
  · exact .inl rfl
  · right
    rw [ho] at h2
    simpa using h2
/-- what the raw number of a signal is -/
def rawD (s : Sig) (l : List UInt8) : Int := rawR s s.st.toNat s.sz.toNat l
def rdD (s : Sig) (l : List UInt8) : Rd := ⟨s.nm, numL (meanN s (rawD s l)) s.di, denL (meanN s (rawD s l)) s.di⟩
def choD (m : Msg) (l : List UInt8) : Int := if 0 ≤ m.ch then rawD (m.at m.ch.toNat) l else -1
def thB (c : Int) (s : Sig) : Bool := s.ky == -1 || s.ky == c
def readsD (m : Msg) (l : List UInt8) : List Rd := (m.sigs.filter (thB (choD m l))).map (fun s => rdD s l)
/-- the error of Read -/
def readE (m : Msg) (id : Int) (lo fa re : Bool) (sz : Int) (n : Nat) : Int :=
  if chkM m ≠ 0 then chkM m
  else if frEn id lo fa re sz n ≠ 0 then frEn id lo fa re sz n
  else if ¬ (id = m.id ∧ lo = m.lo) ∨ re = true then 8
  else if (n : Int) < m.size then 7 else 0
end Bw
end Go.Proofs.YtlnkhlifkooohaaGreatDoor
