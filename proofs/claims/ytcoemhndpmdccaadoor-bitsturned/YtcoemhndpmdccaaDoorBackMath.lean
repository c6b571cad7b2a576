/- Plain facts on rows of bits: what is turned twice is as it was, and its runs are as long. -/
import Derived.Test.YtcoemhndpmdccaaDoorBackMath0
import Derived.Test.YtcoemhndpmdccaaDoorBitsTurn
namespace Go.Proofs.YtcoemhndpmdccaaDoor
namespace Bw
open Bm

theorem oth_bit (c : UInt8) : bit (oth c) = true := by unfold oth; split <;> rfl
theorem oth_oth {c : UInt8} (h : bit c = true) : oth (oth c) = c := by
  rcases (bit_iff c).1 h with h | h
  · have : c = 48 := UInt8.toNat_inj.1 (by show c.toNat = 48; omega)
    subst this; rfl
  · have : c = 49 := UInt8.toNat_inj.1 (by show c.toNat = 49; omega)
    subst this; rfl
theorem oth_row (l : List UInt8) : rowB (l.map oth) = true := by
  unfold rowB
  rw [List.all_map, List.all_eq_true]
  intro i _
  exact oth_bit i
theorem oth_twice (l : List UInt8) (h : rowB l = true) : (l.map oth).map oth = l := by
  unfold rowB at h
  rw [List.all_eq_true] at h
  rw [List.map_map]
  conv => rhs; rw [← List.map_id l]
  apply List.map_congr_left
  intro c hc
  exact oth_oth (h c hc)
theorem oth_inj {c d : UInt8} (hc : bit c = true) (hd : bit d = true) : (oth c = oth d) ↔ c = d :=
  ⟨fun h => by rw [← oth_oth hc, ← oth_oth hd, h], fun h => by rw [h]⟩
theorem row_getD {l : List UInt8} (h : rowB l = true) (i : Nat) (hi : i < l.length) : bit (l.getD i 0) = true ∧ (l.map oth).getD i 0 = oth (l.getD i 0) := by
  unfold rowB at h
  rw [List.all_eq_true] at h
  simp only [List.getD, List.getElem?_eq_getElem hi, Option.getD_some, List.getElem?_map, Option.map_some]
  exact ⟨h _ (List.getElem_mem _), trivial⟩
theorem runF_oth (l : List UInt8) (h : rowB l = true) : ∀ i, i ≤ l.length → runF (l.map oth) i = runF l i
  | 0, _ => rfl
  | i + 1, hi => by
    have ih := runF_oth l h i (by omega)
    have hs := runF_st l i
    have h1 := row_getD h i (by omega)
    have h2 := row_getD h (runF l i).2 (by omega)
    by_cases e : l.getD i 0 = l.getD (runF l i).2 0
    · rw [runF_succ_same l i e, runF_succ_same (l.map oth) i (by rw [ih, h1.2, h2.2, e]), ih]
    · rw [runF_succ_other l i e, runF_succ_other (l.map oth) i (by rw [ih, h1.2, h2.2]; exact fun x => e ((oth_inj h1.1 h2.1).1 x)), ih]

end Bw
end Go.Proofs.YtcoemhndpmdccaaDoor
