/- Plain facts on texts that lie in texts: a row of one byte alone, and one byte. -/
import Derived.Test.YtdhmjbnpdmneiabDoorBase8
import Derived.Lib.IndexMore
namespace Go.Proofs.YtdhmjbnpdmneiabDoor
namespace Bw
open Bm

theorem occ_iff (l : List UInt8) (c : UInt8) (j p : Nat) : Lib.occAt l (List.replicate j c) p = true ↔ (j = 0 ∨ p + j ≤ l.length) ∧ ∀ q, p ≤ q → q < p + j → l.getD q 0 = c := by
  unfold Lib.occAt
  rw [List.isPrefixOf_iff_prefix]
  constructor
  · rintro ⟨t, ht⟩
    have hlen := congrArg List.length ht
    simp only [List.length_append, List.length_replicate, List.length_drop] at hlen
    refine ⟨by omega, fun q h1 h2 => ?_⟩
    have hq : (l.drop p)[q - p]? = some c := by
      rw [← ht, List.getElem?_append_left (by simp; omega), List.getElem?_replicate, if_pos (by omega)]
    rw [List.getElem?_drop, show p + (q - p) = q by omega] at hq
    simp [List.getD, hq]
  · rintro ⟨h1, h2⟩
    rcases h1 with rfl | h1
    · exact ⟨_, rfl⟩
    · refine ⟨(l.drop p).drop j, ?_⟩
      have e : List.replicate j c = (l.drop p).take j := by
        apply List.ext_getElem
        · simp; omega
        · intro i hi1 hi2
          simp only [List.length_replicate] at hi1
          have := h2 (p + i) (by omega) (by omega)
          have hp : p + i < l.length := by omega
          simp only [List.getD, List.getElem?_eq_getElem hp, Option.getD_some] at this
          simp [this]
      rw [e, List.take_append_drop]

theorem contains_iff (l : List UInt8) (c : UInt8) (j : Nat) (hj : 0 < j) : Lib.contains l (List.replicate j c) = true ↔ ∃ p, p + j ≤ l.length ∧ ∀ q, p ≤ q → q < p + j → l.getD q 0 = c := by
  unfold Lib.contains
  rw [decide_eq_true_eq]
  rcases Lib.index_spec l (List.replicate j c) with ⟨h, hn⟩ | ⟨i, h, hi, ho, _⟩
  · rw [h]
    constructor
    · intro h; omega
    · rintro ⟨p, h1, h2⟩
      have := hn p (by omega)
      rw [(occ_iff l c j p).2 ⟨Or.inr h1, h2⟩] at this
      cases this
  · rw [h]
    constructor
    · intro _
      have := (occ_iff l c j i).1 ho
      exact ⟨i, by omega, this.2⟩
    · intro _; omega

theorem contains_one (l : List UInt8) (c : UInt8) : Lib.contains l [c] = true ↔ c ∈ l := by
  have h := contains_iff l c 1 (by omega)
  rw [show List.replicate 1 c = [c] from rfl] at h
  rw [h]
  constructor
  · rintro ⟨p, h1, h2⟩
    have := h2 p (by omega) (by omega)
    have hp : p < l.length := by omega
    rw [List.getD, List.getElem?_eq_getElem hp, Option.getD_some] at this
    rw [← this]
    exact List.getElem_mem hp
  · intro hc
    obtain ⟨p, hp, e⟩ := List.getElem_of_mem hc
    refine ⟨p, by omega, fun q h1 h2 => ?_⟩
    obtain rfl : q = p := by omega
    rw [List.getD, List.getElem?_eq_getElem hp, Option.getD_some, e]
end Bw
end Go.Proofs.YtdhmjbnpdmneiabDoor
