/- What slices.Reverse makes of a row of frames, and of a row of numbers. -/
import Derived.Test.YtfomempleaceiaaDoorFrClone
import Derived.Test.YtfomempleaceiaaDoorC5
import Derived.Test.YtfomempleaceiaaDoorW3
import Derived.Test.YtfomempleaceiaaDoorShelfRev
import Derived.Test.YtfomempleaceiaaDoorShelfRvf
namespace Go.Proofs.YtfomempleaceiaaDoor
open Go.ChangeShapes Go.WideShapes Go.ChangeAt Go.RowKit
namespace Bw
open Bm Go.Sort
theorem put_tch {α : Type} [Inhabited α] (enc : α → Value) (w : World) (n g off : Nat) (d : Array α) : Tch [g] w (Sort.putRow enc (Sort.ahead w n) g off d) := by
  refine ⟨rfl, rfl, rfl, by simp [Sort.ahead], fun k hk hg => ?_⟩
  have hne : g ≠ k := by intro e; exact hg (by simp [e])
  show (w.heap.modify g _)[k]? = w.heap[k]?
  rw [Array.getElem?_modify, if_neg hne]
theorem revF_any (base g n c : Nat) (l : List FrV) (w : World) (hl : l.length = n) (hn : n ≤ maxLen) (ho : w.ownsRow base 30 6 (.slice (some ⟨g, 0, none⟩) n c) n (frC l)) :
    Calls Tryd.prog 17 #[.slice (some ⟨g, 0, none⟩) n c] w fun e w' => e = .returned (.tuple #[]) ∧ (∀ i (hi : i < l.reverse.length) k (hk : k < 6), w'.cell? ⟨g, i * 6 + k, none⟩ = some ((l.reverse[i].cells)[k]'hk)) ∧ Tch [g] w w' := by
  haveI : Inhabited FrV := ⟨⟨⟨0, false, false, false, 0, []⟩, none, 0, 0⟩⟩
  have hH : HoldsK FrV.cells 6 w g 0 l.toArray := by
    intro j hj
    have hj2 : j < l.length * 6 := by simpa [size_flatK] using hj
    have hi : j / 6 < l.length := by omega
    have hk : j % 6 < 6 := Nat.mod_lt _ (by omega)
    refine ⟨?_, ?_⟩
    · rw [Nat.zero_add, ho.cellAt j (by omega)]
      have h1 := frC_at l (j / 6) (j % 6) hi hk
      rw [show j / 6 * 6 + j % 6 = j by omega] at h1
      rw [h1]
      have h2 := get_flatK FrV.cells 6 l.toArray j (by simpa using hj2)
      rw [id, h2]
      have e1 : l.toArray[j / 6]! = l[j / 6] := by simp [hi]
      rw [e1, getElem!_pos l[j / 6].cells (j % 6) (by exact hk)]
    · rw [Nat.zero_add]; exact ho.frozenAt j
  have h := AnyQ.slices_Reverse Tryd.lays35r 6 Tryd.isAgg30 Tryd.sizeOf30 FrV.cells (fun _ => rfl) (fun v u hu => frC_one [v] u (by simpa [frC] using hu)) g 0 c l.toArray w hH (by unfold maxLen at hn; simp; omega)
  rw [show l.toArray.size = n by simpa using hl] at h
  refine h.mono ?_
  rintro e w' ⟨rfl, m, rfl⟩
  refine ⟨rfl, fun i hi k hk => ?_, put_tch _ _ _ _ _ _⟩
  have h2 := holdsK_putRowK FrV.cells 6 (Sort.ahead w m) g 0 l.toArray l.toArray.reverse hH (by simp)
  have h3 := (h2.cell (i := i) (c := k) (by simpa using hi) hk).1
  rw [Nat.zero_add] at h3
  rw [h3]
  have e1 : l.toArray.reverse[i]! = l.reverse[i] := by
    rw [List.reverse_toArray, getElem!_pos l.reverse.toArray i (by simpa using hi)]
    rfl
  rw [e1, getElem!_pos _ k (by exact hk)]
theorem revN_any (base g n : Nat) (l : List Int) (w : World) (hl : l.length = n) (hn : n ≤ 1000) (ho : w.ownsRow base 3 1 (.slice (some ⟨g, 0, none⟩) n n) n (intC l)) :
    Calls Tryd.prog 18 #[.slice (some ⟨g, 0, none⟩) n n] w fun e w' => e = .returned (.tuple #[]) ∧ NumsAt w' g 0 l.reverse ∧ Tch [g] w w' := by
  have hH : Sort.Holds (Value.int .i64) w g 0 l.toArray := by
    intro j hj
    have hj2 : j < l.length := by simpa using hj
    refine ⟨?_, ?_⟩
    · have := nums_of ho j hj2
      rw [this]
      simp [List.getD, hj2]
    · rw [Nat.zero_add]; exact ho.frozenAt j
  have h := Tryd.slices_Reverse_int g 0 n l w hH (by omega)
  rw [hl] at h
  refine h.mono ?_
  rintro e w' ⟨rfl, m, rfl⟩
  refine ⟨rfl, fun i hi => ?_, put_tch _ _ _ _ _ _⟩
  have h2 := Sort.holds_putRow (Value.int .i64) (Sort.ahead w m) g 0 l.toArray l.reverse.toArray hH (by simp)
  have h3 := (h2 i (by simpa using hi)).1
  rw [h3]
  have hi2 : i < l.length := by simpa using hi
  simp [List.getD, hi2]
end Bw
end Go.Proofs.YtfomempleaceiaaDoor
