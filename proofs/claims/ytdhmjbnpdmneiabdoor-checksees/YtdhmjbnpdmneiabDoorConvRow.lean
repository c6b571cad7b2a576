/- A row of bytes that was made of a text: its cells, a cell written anew, and the text that is made of it. -/
import Derived.Test.YtdhmjbnpdmneiabDoorBase8
import Derived.Laws.IdiomStrings
import Derived.Laws.BitsAllLaws
namespace Go.Proofs.YtdhmjbnpdmneiabDoor
open Go.ChangeShapes Go.WideShapes Go.ChangeAt Go.RowKit
namespace Bw
open Bm

/-- block g begins with the bytes l, and each may be written -/
def ConvAt (w : World) (g : Nat) (l : List UInt8) : Prop := g < w.heap.size ∧ ∀ j, j < l.length → w.cell? ⟨g, j, none⟩ = some (.int .u8 (l.getD j 0).toNat) ∧ w.frozen? ⟨g, j, none⟩ = false
theorem getD_at {l : List UInt8} {j : Nat} (h : j < l.length) : l.getD j 0 = l[j] := by simp [List.getD, h]
/-- the world behind the making -/
def convW (w : World) (s : ByteArray) : World := w.drew.alloc (.cells (bytesRow s (grownCap w s.size 0 5)) 5 ((bytesRow s (grownCap w s.size 0 5)).size, (bytesRow s (grownCap w s.size 0 5)).size + 1))
theorem conv_run (w : World) (s : ByteArray) : (convert 9 37 (.string s)).run Tryd.prog w = .ok (.slice (some ⟨w.heap.size, 0, none⟩) s.size (grownCap w s.size 0 5)) (convW w s) :=
  run_bytes_of_string w 9 37 5 s Tryd.underlying9 Tryd.underlying37 Tryd.underlying5
theorem conv_new (w : World) (s : ByteArray) : ConvAt (convW w s) w.heap.size s.data.toList := by
  refine ⟨by unfold convW; simp, fun j hj => ?_⟩
  have hj' : j < s.data.size := by simpa using hj
  have hj2 : j < s.size := hj'
  have h1 := World.cell?_alloc_mark w.drew (bytesRow s (grownCap w s.size 0 5)) 5 ((bytesRow s (grownCap w s.size 0 5)).size, (bytesRow s (grownCap w s.size 0 5)).size + 1) j
  have h2 := World.frozen?_alloc_mark w.drew (bytesRow s (grownCap w s.size 0 5)) 5 (bytesRow s (grownCap w s.size 0 5)).size ((bytesRow s (grownCap w s.size 0 5)).size + 1) j
  refine ⟨?_, ?_⟩
  · refine Eq.trans h1 ?_
    rw [bytesRow_at s _ j hj', getD_at hj]
    simp
  · refine Eq.trans h2 ?_
    have : j < (bytesRow s (grownCap w s.size 0 5)).size := by unfold bytesRow; simp; omega
    have e : decide ((bytesRow s (grownCap w s.size 0 5)).size ≤ j) = false := by simp; omega
    rw [e]; rfl
theorem conv_below (w : World) (s : ByteArray) : Below w.heap.size w (convW w s) := ((Below.refl w.heap.size w).drew).alloc (by simp) _
theorem ConvAt.kept {w w' : World} {g : Nat} {l : List UInt8} (h : ConvAt w g l) (hb : Below w.heap.size w w') : ConvAt w' g l :=
  ⟨Nat.lt_of_lt_of_le h.1 hb.size, fun j hj => ⟨by rw [hb.cell h.1]; exact (h.2 j hj).1, by rw [hb.frozen h.1]; exact (h.2 j hj).2⟩⟩
theorem ConvAt.set {w : World} {g : Nat} {l : List UInt8} (h : ConvAt w g l) (j : Nat) (hj : j < l.length) (c : UInt8) : ConvAt (w.setCell ⟨g, j, none⟩ (.int .u8 c.toNat)) g (l.set j c) := by
  refine ⟨by simpa [World.setCell] using h.1, fun i hi => ?_⟩
  rw [List.length_set] at hi
  refine ⟨?_, by rw [World.frozen?_setCell]; exact (h.2 i hi).2⟩
  by_cases e : j = i
  · subst e
    rw [World.cell?_setCell_same _ _ _ (h.2 j hj).1]
    simp [List.getD, hj]
  · rw [World.cell?_setCell_other _ _ _ _ (by intro h; injection h with _ h; exact e h), (h.2 i hi).1]
    simp [List.getD, e]
theorem ConvAt.back {w : World} {g : Nat} {l : List UInt8} (h : ConvAt w g l) (cap n : Nat) (hn : l.length = n) : (convert 37 9 (.slice (some ⟨g, 0, none⟩) n cap)).run Tryd.prog w = .ok (.string ⟨l.toArray⟩) w := by
  have := run_convert_bytes_back w 37 9 5 ⟨g, 0, none⟩ cap l Tryd.underlying37 Tryd.underlying5 Tryd.underlying9 (fun j hj => by
    have e : (Addr.add ⟨g, 0, none⟩ j) = ⟨g, j, none⟩ := by simp [Addr.add]; exact fun h => h.symm
    rw [e, (h.2 j hj).1, getD_at hj])
  rw [hn] at this
  exact this
theorem xor_one (c : UInt8) : bits .xor .u8 (c.toNat : Int) 1 = (((c ^^^ 1 : UInt8).toNat : Nat) : Int) := by
  have h := u8_xor_nat c.toNat 1 (UInt8.toNat_lt c) (by omega)
  rw [UInt8.toNat_xor]
  exact h
end Bw
end Go.Proofs.YtdhmjbnpdmneiabDoor
