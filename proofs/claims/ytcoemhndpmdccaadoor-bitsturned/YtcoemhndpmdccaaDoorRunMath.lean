/- Plain facts on runs: how long the longest part of a row is in which all are alike, and which rows of one bit lie in it. -/
import Derived.Test.YtcoemhndpmdccaaDoorBitsRun
import Derived.Lib.IndexMore
namespace Go.Proofs.YtcoemhndpmdccaaDoor
namespace Bw
open Bm

/-- all of l from p on, j of them, are alike -/
def Alike (l : List UInt8) (p j : Nat) : Prop := ∀ q, p ≤ q → q < p + j → l.getD q 0 = l.getD p 0

theorem runF_all (l : List UInt8) (i : Nat) :
    (∀ q, (runF l i).2 ≤ q → q < i → l.getD q 0 = l.getD (runF l i).2 0) ∧ ((runF l i).2 = 0 ∨ l.getD ((runF l i).2 - 1) 0 ≠ l.getD (runF l i).2 0) ∧
    (i - (runF l i).2 ≤ (runF l i).1) ∧ (∃ p, p + (runF l i).1 ≤ i ∧ Alike l p (runF l i).1) ∧ (∀ p j, p + j ≤ i → Alike l p j → j ≤ (runF l i).1) := by
  induction i with
  | zero => exact ⟨fun q _ h => absurd h (by omega), Or.inl rfl, Nat.le_refl _, ⟨0, Nat.le_refl _, fun q _ h => absurd h (by simp [runF])⟩, fun p j h _ => by simp [runF]; omega⟩
  | succ i ih =>
    obtain ⟨h1, h2, h3, ⟨p0, h4, h5⟩, h6⟩ := ih
    have hst := runF_st l i
    by_cases e : l.getD i 0 = l.getD (runF l i).2 0
    · rw [runF_succ_same l i e]
      generalize runF l i = r at *
      refine ⟨fun q hq hl => ?_, h2, by omega, ?_, fun p j hp ha => ?_⟩
      · rcases Nat.lt_or_ge q i with h | h
        · exact h1 q hq h
        · have : q = i := by omega
          subst this; exact e
      · rcases Nat.lt_or_ge r.1 (i + 1 - r.2) with h | h
        · refine ⟨r.2, by show r.2 + max r.1 (i + 1 - r.2) ≤ i + 1; omega, fun q hq hl => ?_⟩
          have hl' : q < i + 1 := by have : max r.1 (i + 1 - r.2) = i + 1 - r.2 := by omega
                                     rw [this] at hl; omega
          rcases Nat.lt_or_ge q i with h' | h'
          · exact h1 q hq h'
          · have : q = i := by omega
            subst this; exact e
        · refine ⟨p0, by show p0 + max r.1 (i + 1 - r.2) ≤ i + 1; omega, ?_⟩
          have : max r.1 (i + 1 - r.2) = r.1 := by omega
          show Alike l p0 (max r.1 (i + 1 - r.2))
          rw [this]; exact h5
      · show j ≤ max r.1 (i + 1 - r.2)
        rcases Nat.lt_or_ge (p + j) (i + 1) with h | h
        · have := h6 p j (by omega) ha; omega
        · rcases Nat.lt_or_ge p r.2 with hp2 | hp2
          · exfalso
            rcases h2 with h2 | h2
            · omega
            · apply h2
              rw [ha (r.2 - 1) (by omega) (by omega), ha r.2 (by omega) (by omega)]
          · omega
    · rw [runF_succ_other l i e]
      generalize runF l i = r at *
      refine ⟨fun q hq hl => ?_, ?_, by show i + 1 - i ≤ max r.1 1; omega, ?_, fun p j hp ha => ?_⟩
      · have : q = i := by simp only at hq; omega
        subst this; rfl
      · rcases Nat.eq_zero_or_pos i with h | h
        · exact Or.inl h
        · refine Or.inr ?_
          show l.getD (i - 1) 0 ≠ l.getD i 0
          rw [h1 (i - 1) (by omega) (by omega)]
          exact fun x => e x.symm
      · rcases Nat.lt_or_ge r.1 1 with h | h
        · refine ⟨i, by show i + max r.1 1 ≤ i + 1; omega, fun q hq hl => ?_⟩
          have : max r.1 1 = 1 := by omega
          simp only [this] at hl
          have : q = i := by omega
          subst this; rfl
        · refine ⟨p0, by show p0 + max r.1 1 ≤ i + 1; omega, ?_⟩
          have : max r.1 1 = r.1 := by omega
          show Alike l p0 (max r.1 1)
          rw [this]; exact h5
      · show j ≤ max r.1 1
        rcases Nat.lt_or_ge (p + j) (i + 1) with h | h
        · have := h6 p j (by omega) ha; omega
        · rcases Nat.lt_or_ge 1 j with hj | hj
          · exfalso
            apply e
            rw [ha i (by omega) (by omega), ← ha (i - 1) (by omega) (by omega)]
            exact h1 (i - 1) (by omega) (by omega)
          · omega

theorem occ_iff (l : List UInt8) (c : UInt8) (j p : Nat) : Lib.occAt l (List.replicate j c) p = true ↔ (j = 0 ∨ p + j ≤ l.length) ∧ ∀ q, p ≤ q → q < p + j → l.getD q 0 = c := by
  unfold Lib.occAt
  rw [List.isPrefixOf_iff_prefix]
  constructor
  · rintro ⟨t, ht⟩
    have hlen := congrArg List.length ht
    simp only [List.length_append, List.length_replicate, List.length_drop] at hlen
    refine ⟨by omega, fun q h1 h2 => ?_⟩
    have hq : (l.drop p)[q - p]? = some c := by
      rw [← ht, List.getElem?_append_left (by simp; omega), List.getElem?_replicate, if_pos (by omega)]
    rw [List.getElem?_drop, show p + (q - p) = q by omega] at hq
    simp [List.getD, hq]
  · rintro ⟨h1, h2⟩
    rcases h1 with rfl | h1
    · exact ⟨_, rfl⟩
    · refine ⟨(l.drop p).drop j, ?_⟩
      have e : List.replicate j c = (l.drop p).take j := by
        apply List.ext_getElem
        · simp; omega
        · intro i hi1 hi2
          simp only [List.length_replicate] at hi1
          have := h2 (p + i) (by omega) (by omega)
          have hp : p + i < l.length := by omega
          simp only [List.getD, List.getElem?_eq_getElem hp, Option.getD_some] at this
          simp [this]
      rw [e, List.take_append_drop]

theorem contains_iff (l : List UInt8) (c : UInt8) (j : Nat) (hj : 0 < j) : Lib.contains l (List.replicate j c) = true ↔ ∃ p, p + j ≤ l.length ∧ ∀ q, p ≤ q → q < p + j → l.getD q 0 = c := by
  unfold Lib.contains
  rw [decide_eq_true_eq]
  rcases Lib.index_spec l (List.replicate j c) with ⟨h, hn⟩ | ⟨i, h, hi, ho, _⟩
  · rw [h]
    constructor
    · intro h; omega
    · rintro ⟨p, h1, h2⟩
      have := hn p (by omega)
      rw [(occ_iff l c j p).2 ⟨Or.inr h1, h2⟩] at this
      cases this
  · rw [h]
    constructor
    · intro _
      have := (occ_iff l c j i).1 ho
      exact ⟨i, by omega, this.2⟩
    · intro _; omega

/-- of a row: a run of j ones or noughts lies in it just where j is at most the longest -/
theorem run_contains (l : List UInt8) (h : rowB l = true) (j : Nat) (hj : 0 < j) :
    (Lib.contains l (List.replicate j 48) = true ∨ Lib.contains l (List.replicate j 49) = true) ↔ j ≤ (runF l l.length).1 := by
  obtain ⟨-, -, -, ⟨p0, h4, h5⟩, h6⟩ := runF_all l l.length
  constructor
  · intro hh
    have key : ∀ c, Lib.contains l (List.replicate j c) = true → j ≤ (runF l l.length).1 := by
      intro c hc
      obtain ⟨p, h1, h2⟩ := (contains_iff l c j hj).1 hc
      exact h6 p j h1 (fun q hq hl => by rw [h2 q hq hl, h2 p (Nat.le_refl _) (by omega)])
    rcases hh with hh | hh
    · exact key _ hh
    · exact key _ hh
  · intro hle
    have hp : p0 < l.length := by omega
    have hb : bit (l.getD p0 0) = true := by
      unfold rowB at h
      rw [List.all_eq_true] at h
      simp only [List.getD, List.getElem?_eq_getElem hp, Option.getD_some]
      exact h _ (List.getElem_mem _)
    have hc : ∃ p, p + j ≤ l.length ∧ ∀ q, p ≤ q → q < p + j → l.getD q 0 = l.getD p0 0 := ⟨p0, by omega, fun q hq hl => h5 q hq (by omega)⟩
    rcases (bit_iff _).1 hb with hbb | hbb
    · have e : l.getD p0 0 = 48 := UInt8.toNat_inj.1 (by show (l.getD p0 0).toNat = 48; omega)
      rw [e] at hc
      exact Or.inl ((contains_iff l 48 j hj).2 hc)
    · have e : l.getD p0 0 = 49 := UInt8.toNat_inj.1 (by show (l.getD p0 0).toNat = 49; omega)
      rw [e] at hc
      exact Or.inr ((contains_iff l 49 j hj).2 hc)
end Bw
end Go.Proofs.YtcoemhndpmdccaaDoor
