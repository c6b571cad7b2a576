/- In whatever order frames are told, Send tells the same: plain facts. -/
import Derived.Test.YtfomempleaceiaaDoorT1
import Derived.Test.YtfomempleaceiaaDoorW3
import Derived.Test.YtfomempleaceiaaDoorT2
namespace Go.Proofs.YtfomempleaceiaaDoor
namespace Bw
open Bm Cm
theorem send_parts {l : List FrV} (h : sendE l = 0) : l.length ≤ 6 ∧ l.length ≠ 0 ∧ firE (l.map (·.f)) = 0 ∧ onlyE (difsL l) (-1) = 0 := by
  unfold sendE at h
  by_cases h6 : 6 < l.length
  · rw [if_pos h6] at h; exact absurd h (by decide)
  · rw [if_neg h6] at h
    by_cases h0 : l.length = 0
    · rw [if_pos h0] at h; exact absurd h (by decide)
    · rw [if_neg h0] at h
      by_cases hz : firE (l.map (·.f)) = 0
      · rw [if_neg (fun x => x hz)] at h
        exact ⟨by omega, h0, hz, h⟩
      · rw [if_pos hz] at h; exact absurd h hz
theorem first_parts {l : List FrV} (h : firstE l = 0) : l.length ≤ 6 ∧ l.length ≠ 0 ∧ firE (l.map (·.f)) = 0 ∧ onlyE (namesL l) (minL (namesL l)) = 0 := by
  unfold firstE at h
  by_cases h6 : 6 < l.length
  · rw [if_pos h6] at h; exact absurd h (by decide)
  · rw [if_neg h6] at h
    by_cases hz : firE (l.map (·.f)) = 0
    · rw [if_neg (fun x => x hz)] at h
      by_cases h0 : l.length = 0
      · rw [if_pos h0] at h; exact absurd h (by decide)
      · rw [if_neg h0] at h
        exact ⟨by omega, h0, hz, h⟩
    · rw [if_pos hz] at h; exact absurd h hz
theorem rowsL_map (l : List FrV) : rowsL l = (l.map (·.f)).map bitsL := by unfold rowsL; rw [List.map_map]; rfl
theorem namesL_map (l : List FrV) : namesL l = (l.map (·.f)).map nameL := by unfold namesL; rw [List.map_map]; rfl
theorem difs_only {l : List FrV} (h0 : l.length ≠ 0) (hz : firE (l.map (·.f)) = 0) : onlyE (difsL l) (-1) = onlyE (rowsL l) (bestL l) ∧ idxG (difsL l) (-1) = idxG (rowsL l) (bestL l) := by
  obtain ⟨_, _, hA, hL⟩ := rows_facts l hz h0
  refine ⟨?_, dif_idx hA hL.1⟩
  have hd := dif_count hA hL.1
  rw [onlyE_rows hL.1, ← hd]
  unfold difsL
  exact onlyE_mem (dif_mem hL.1)
theorem first_send {l : List FrV} (h : firstE l = 0) : sendE l = 0 ∧ idxG (difsL l) (-1) = idxG (namesL l) (minL (namesL l)) := by
  obtain ⟨h6, h0, hz, ho⟩ := first_parts h
  obtain ⟨d1, d2⟩ := difs_only h0 hz
  have hne : l.map (·.f) ≠ [] := by
    intro e
    have := congrArg List.length e
    simp at this
    exact h0 (by rw [this]; rfl)
  have hm : minL (namesL l) ∈ namesL l := by
    rw [namesL_map]
    exact minL_mem (by simpa using hne)
  have hcnt : ¬ 1 < (namesL l).count (minL (namesL l)) := by
    intro hx
    rw [onlyE_rows hm, if_pos hx] at ho
    exact absurd ho (by decide)
  rw [namesL_map] at hcnt
  obtain ⟨f1, f2⟩ := first_wins (l.map (·.f)) hne hcnt
  rw [← rowsL_map, ← namesL_map] at f2
  rw [← rowsL_map] at f1
  refine ⟨?_, ?_⟩
  · unfold sendE
    rw [if_neg (by omega), if_neg h0, if_neg (fun x => x hz), d1]
    exact f1
  · rw [d2]; exact f2
theorem send_who {l : List FrV} (h : sendE l = 0) : ∃ i : Nat, ∃ hi : i < l.length, idxG (difsL l) (-1) = i ∧ bitsL l[i].f = bestL l ∧ frE l[i].f = 0 := by
  obtain ⟨h6, h0, hz, ho⟩ := send_parts h
  obtain ⟨_, d2⟩ := difs_only h0 hz
  obtain ⟨_, _, hA, hL⟩ := rows_facts l hz h0
  obtain ⟨a, b, hab, ha⟩ := firstG hL.1
  have hi : a.length < (rowsL l).length := by rw [hab]; simp
  have hil : a.length < l.length := by simpa [rowsL] using hi
  refine ⟨a.length, hil, ?_, ?_, ?_⟩
  · rw [d2, hab, idxG_at a b _ ha]
  · have e1 : (rowsL l)[a.length]'hi = bitsL (l[a.length]'hil).f := by simp [rowsL]
    rw [← e1]
    have e2 : (rowsL l)[a.length]? = some (bestL l) := by rw [hab]; simp
    rw [List.getElem?_eq_getElem hi] at e2
    exact Option.some.inj e2
  · exact (firE_zero _).1 hz _ (List.mem_map.2 ⟨_, List.getElem_mem hil, rfl⟩)
end Bw
end Go.Proofs.YtfomempleaceiaaDoor
namespace Go.Proofs.YtfomempleaceiaaDoor
namespace Bw
open Bm Cm
theorem rowsL_rev (l : List FrV) : rowsL l.reverse = (rowsL l).reverse := by unfold rowsL; rw [List.map_reverse]
theorem firE_rev (l : List FrV) : firE (l.reverse.map (·.f)) = 0 ↔ firE (l.map (·.f)) = 0 := by
  rw [firE_zero, firE_zero, List.map_reverse]
  constructor
  · intro h f hf; exact h f (by simpa using hf)
  · intro h f hf; exact h f (by simpa using hf)
theorem bestL_rev (l : List FrV) (h : l.length ≠ 0) : bestL l.reverse = bestL l := by
  unfold bestL
  rw [rowsL_rev, minL_rev]
  intro e
  have := congrArg List.length e
  simp [rowsL] at this
  exact h (by rw [this]; rfl)
theorem difsL_rev (l : List FrV) (h : l.length ≠ 0) : difsL l.reverse = (difsL l).reverse := by
  unfold difsL
  rw [bestL_rev l h, rowsL_rev, List.map_reverse]
theorem difs_mem (l : List FrV) (h : l.length ≠ 0) : (-1 : Int) ∈ difsL l := by
  refine dif_mem (minL_mem (fun e => ?_))
  have := congrArg List.length e
  simp [rowsL] at this
  exact h (by rw [this]; rfl)
theorem sendE_rev (l : List FrV) : sendE l.reverse = 0 ↔ sendE l = 0 := by
  have key : ∀ l : List FrV, sendE l = 0 → sendE l.reverse = 0 := by
    intro l h
    obtain ⟨h6, h0, hz, ho⟩ := send_parts h
    unfold sendE
    rw [List.length_reverse, if_neg (by omega), if_neg h0, if_neg (fun x => x ((firE_rev l).2 hz)), difsL_rev l h0]
    rw [onlyE_mem (difs_mem l h0)] at ho
    rw [onlyE_mem (by simpa using difs_mem l h0), List.count_reverse]
    exact ho
  refine ⟨fun h => ?_, key l⟩
  have := key l.reverse h
  rwa [List.reverse_reverse] at this
theorem idx_rev {l : List Int} {x : Int} (hm : x ∈ l) (h : onlyE l x = 0) : idxG l x = (l.length : Int) - 1 - idxG l.reverse x := by
  rw [onlyE_mem hm] at h
  obtain ⟨a, b, rfl, ha⟩ := firstG hm
  have hb : x ∉ b := by
    intro hx
    have h1 := List.count_pos_iff.2 hx
    rw [if_pos (by rw [List.count_append, List.count_cons_self]; omega)] at h
    exact absurd h (by decide)
  rw [idxG_at a b x ha, List.reverse_append, List.reverse_cons, List.append_assoc]
  show _ = _ - 1 - idxG (b.reverse ++ x :: a.reverse) x
  rw [idxG_at b.reverse a.reverse x (by simpa using hb)]
  simp
  omega
end Bw
end Go.Proofs.YtfomempleaceiaaDoor
