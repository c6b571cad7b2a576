/- Where a number stands first in a list; the numbers of bytes that a frame can have. -/
import Derived.Test.YtlnkhlifkooohaaGreatDoorFrameTop
namespace Go.Proofs.YtlnkhlifkooohaaGreatDoor
open Go.ChangeShapes Go.WideShapes Go.ChangeAt Go.RowKit
namespace Bw
open Bm Cm

/-- block g begins with these numbers -/
def IntsAt (w : World) (g : Nat) (xs : List Int) : Prop := ∀ i, i < xs.length → w.cell? ⟨g, i, none⟩ = some (.int .i64 (xs.getD i 0))
/-- where v stands first, or -1 -/
def idxI : List Int → Int → Int
  | [], _ => -1
  | x :: xs, v => if x = v then 0 else if idxI xs v = -1 then -1 else idxI xs v + 1
theorem idxI_ge (xs : List Int) (v : Int) : -1 ≤ idxI xs v ∧ idxI xs v < xs.length := by
  induction xs with
  | nil => simp [idxI]
  | cons x xs ih =>
    rw [idxI, List.length_cons]
    split
    · omega
    · split <;> omega
theorem idxI_app (a b : List Int) (v : Int) (h : v ∉ a) : idxI (a ++ b) v = if idxI b v = -1 then -1 else idxI b v + a.length := by
  induction a with
  | nil => simp
  | cons x a ih =>
    have h1 : x ≠ v := fun e => h (by rw [e]; exact List.mem_cons_self)
    have h2 : v ∉ a := fun e => h (List.mem_cons_of_mem _ e)
    have hb := idxI_ge b v
    rw [List.cons_append, idxI, if_neg h1, ih h2, List.length_cons]
    split
    · simp
    · rw [if_neg (by omega)]; omega
theorem idxI_at (a b : List Int) (v : Int) (h : v ∉ a) : idxI (a ++ v :: b) v = a.length := by
  rw [idxI_app a _ v h, idxI, if_pos rfl]; simp
theorem idxI_none (a : List Int) (v : Int) (h : v ∉ a) : idxI a v = -1 := by
  have := idxI_app a [] v h
  simpa [idxI] using this

theorem first_of {xs : List Int} {v : Int} (h : v ∈ xs) : ∃ a b, xs = a ++ v :: b ∧ v ∉ a := by
  induction xs with
  | nil => cases h
  | cons x xs ih =>
    by_cases e : x = v
    · exact ⟨[], xs, by rw [e]; rfl, by simp⟩
    · have h' : v ∈ xs := by
        rcases List.mem_cons.1 h with h | h
        · exact absurd h.symm e
        · exact h
      obtain ⟨a, b, rfl, ha⟩ := ih h'
      exact ⟨x :: a, b, rfl, by
        intro hm
        rcases List.mem_cons.1 hm with hm | hm
        · exact e hm.symm
        · exact ha hm⟩

def sizesI : List Int := sizesL.map fun (n : Nat) => (n : Int)
theorem idx_sizes {n : Nat} (h : n ∈ sizesL) : idxI sizesI (n : Int) = ((sizesL.idxOf n : Nat) : Int) ∧ sizesL.idxOf n < 16 := by
  have : ∀ m ∈ sizesL, idxI sizesI (m : Int) = ((sizesL.idxOf m : Nat) : Int) ∧ sizesL.idxOf m < 16 := by decide +kernel
  exact this n h
end Bw
end Go.Proofs.YtlnkhlifkooohaaGreatDoor
