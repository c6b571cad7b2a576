/- The order in a queue: plain facts on lists; of no program. -/
import Derived.Test.YthdffdobkampaaaDoorFrameMath
import Derived.Test.YthdffdobkampaaaDoorFrameOk
import Derived.Test.YthdffdobkampaaaDoorWireLeast
namespace Go.Proofs.YthdffdobkampaaaDoor
namespace Bw
open Bm Cm
/-- behind how many of the first n it goes -/
def atE (nm : List UInt8) (l : List (List UInt8)) : Nat → Nat
  | 0 => 0
  | n + 1 => if Op.bytesLess nm (l.getD n []) = true then atE nm l n else n + 1
def insAt {α : Type} (l : List α) (i : Nat) (x : α) : List α := l.take i ++ x :: l.drop i
def atF (l : List Fr) (f : Fr) : Nat := atE (nameL f) (l.map nameL) l.length
def putF (l : List Fr) (f : Fr) : List Fr := insAt l (atF l f) f
def mrgF (a b : List Fr) : List Fr := b.foldl putF a
theorem atE_le (nm : List UInt8) (l : List (List UInt8)) : ∀ n, atE nm l n ≤ n
  | 0 => Nat.le_refl _
  | n + 1 => by
    unfold atE
    split
    · exact Nat.le_succ_of_le (atE_le nm l n)
    · exact Nat.le_refl _
theorem atE_behind (nm : List UInt8) (l : List (List UInt8)) : ∀ n j, atE nm l n ≤ j → j < n → Op.bytesLess nm (l.getD j []) = true
  | 0, j, _, h => absurd h (Nat.not_lt_zero _)
  | n + 1, j, h1, h2 => by
    unfold atE at h1
    split at h1
    · rename_i hl
      by_cases hj : j = n
      · subst hj; exact hl
      · exact atE_behind nm l n j h1 (by omega)
    · omega
theorem atE_ahead (nm : List UInt8) (l : List (List UInt8)) : ∀ n, 0 < atE nm l n → Op.bytesLess nm (l.getD (atE nm l n - 1) []) = false
  | 0, h => absurd h (Nat.not_lt_zero _)
  | n + 1, h => by
    unfold atE at h ⊢
    split at h
    · rename_i hl
      rw [if_pos hl]
      exact atE_ahead nm l n h
    · rename_i hl
      rw [if_neg hl]
      simpa using hl
theorem atE_congr (nm : List UInt8) (l m : List (List UInt8)) : ∀ n, (∀ j, j < n → l.getD j [] = m.getD j []) → atE nm l n = atE nm m n
  | 0, _ => rfl
  | n + 1, h => by
    unfold atE
    rw [h n (Nat.lt_succ_self _), atE_congr nm l m n (fun j hj => h j (Nat.lt_succ_of_lt hj))]
theorem insAt_len {α : Type} (l : List α) (i : Nat) (x : α) : (insAt l i x).length = l.length + 1 := by
  unfold insAt
  simp only [List.length_append, List.length_take, List.length_cons, List.length_drop]
  omega
theorem insAt_map {α β : Type} (g : α → β) (l : List α) (i : Nat) (x : α) : (insAt l i x).map g = insAt (l.map g) i (g x) := by
  unfold insAt; simp [List.map_take, List.map_drop]
theorem insAt_mem {α : Type} (l : List α) (i : Nat) (x y : α) : y ∈ insAt l i x ↔ y = x ∨ y ∈ l := by
  unfold insAt
  constructor
  · intro h
    rcases List.mem_append.1 h with h | h
    · exact .inr (List.mem_of_mem_take h)
    · rcases List.mem_cons.1 h with h | h
      · exact .inl h
      · exact .inr (List.mem_of_mem_drop h)
  · intro h
    rcases h with h | h
    · exact List.mem_append.2 (.inr (List.mem_cons.2 (.inl h)))
    · rw [← List.take_append_drop i l] at h
      rcases List.mem_append.1 h with h | h
      · exact List.mem_append.2 (.inl h)
      · exact List.mem_append.2 (.inr (List.mem_cons.2 (.inr h)))
theorem putF_len (l : List Fr) (f : Fr) : (putF l f).length = l.length + 1 := insAt_len _ _ _
theorem mrgF_len (b : List Fr) : ∀ a, (mrgF a b).length = a.length + b.length := by
  induction b with
  | nil => intro a; rfl
  | cons f b ih => intro a; show (mrgF (putF a f) b).length = _; rw [ih, putF_len, List.length_cons]; omega
theorem putF_mem (l : List Fr) (f y : Fr) : y ∈ putF l f ↔ y = f ∨ y ∈ l := insAt_mem _ _ _ _
theorem mrgF_mem (b : List Fr) : ∀ a y, y ∈ mrgF a b ↔ y ∈ a ∨ y ∈ b := by
  induction b with
  | nil => intro a y; show y ∈ a ↔ _; simp
  | cons f b ih =>
    intro a y
    show y ∈ mrgF (putF a f) b ↔ _
    rw [ih, putF_mem, List.mem_cons]
    constructor
    · rintro ((h | h) | h)
      · exact .inr (.inl h)
      · exact .inl h
      · exact .inr (.inr h)
    · rintro (h | h | h)
      · exact .inl (.inr h)
      · exact .inl (.inl h)
      · exact .inr h
def ordF (a b : Fr) : Prop := Op.bytesLess (nameL b) (nameL a) = false
def SortF (l : List Fr) : Prop := l.Pairwise ordF
theorem ordF_tr {a b c : Fr} (h1 : ordF a b) (h2 : ordF b c) : ordF a c := less_le h2 h1
theorem map_getD (l : List Fr) (j : Nat) (h : j < l.length) : (l.map nameL).getD j [] = nameL l[j] := by simp [List.getD, h]
theorem putF_sort {l : List Fr} (h : SortF l) (f : Fr) : SortF (putF l f) := by
  unfold SortF putF insAt
  have hle := atE_le (nameL f) (l.map nameL) l.length
  have hb := atE_behind (nameL f) (l.map nameL) l.length
  have ha := atE_ahead (nameL f) (l.map nameL) l.length
  unfold atF
  generalize atE (nameL f) (l.map nameL) l.length = i at *
  have hs : SortF (l.take i ++ l.drop i) := by rw [List.take_append_drop]; exact h
  obtain ⟨s1, s2, s3⟩ := List.pairwise_append.1 hs
  have hx1 : ∀ y ∈ l.take i, ordF y f := by
    intro y hy
    obtain ⟨j, hj, rfl⟩ := List.mem_iff_getElem.1 hy
    simp only [List.length_take] at hj
    rw [List.getElem_take]
    have hi : 0 < i := by omega
    have h0 := ha hi
    rw [map_getD l (i - 1) (by omega)] at h0
    by_cases e : j = i - 1
    · subst e; exact h0
    · have := List.pairwise_iff_getElem.1 h j (i - 1) (by omega) (by omega) (by omega)
      exact ordF_tr this h0
  have hx2 : ∀ y ∈ l.drop i, ordF f y := by
    intro y hy
    obtain ⟨j, hj, rfl⟩ := List.mem_iff_getElem.1 hy
    simp only [List.length_drop] at hj
    rw [List.getElem_drop]
    have h0 := hb (i + j) (by omega) (by omega)
    rw [map_getD l (i + j) (by omega)] at h0
    exact less_not h0
  refine List.pairwise_append.2 ⟨s1, List.pairwise_cons.2 ⟨hx2, s2⟩, ?_⟩
  intro y hy z hz
  rcases List.mem_cons.1 hz with rfl | hz
  · exact hx1 y hy
  · exact s3 y hy z hz
theorem mrgF_sort (b : List Fr) : ∀ {a}, SortF a → SortF (mrgF a b) := by
  induction b with
  | nil => intro a h; exact h
  | cons f b ih => intro a h; exact ih (putF_sort h f)
/-- the first is ahead of all -/
theorem sort_head {l : List Fr} (h : SortF l) (h0 : 0 < l.length) : ∀ y ∈ l, Op.bytesLess (nameL y) (nameL l[0]) = false := by
  intro y hy
  obtain ⟨j, hj, rfl⟩ := List.mem_iff_getElem.1 hy
  by_cases e : j = 0
  · subst e; exact less_irr _
  · exact List.pairwise_iff_getElem.1 h 0 j h0 hj (by omega)
/-- what is wrong with the one at i, if those ahead of it are right -/
def stepQ (l : List Fr) (i : Nat) : Int :=
  if frE (l.getD i ⟨0, false, false, false, 0, []⟩) ≠ 0 then frE (l.getD i ⟨0, false, false, false, 0, []⟩)
  else if 0 < i ∧ Op.bytesLess (nameL (l.getD i ⟨0, false, false, false, 0, []⟩)) (nameL (l.getD (i - 1) ⟨0, false, false, false, 0, []⟩)) = true then 4 else 0
def chkK (l : List Fr) : Nat → Int
  | 0 => 0
  | i + 1 => if chkK l i = 0 then stepQ l i else chkK l i
def chkQ (l : List Fr) : Int := if 16 < l.length then 2 else chkK l l.length
theorem chkK_stop {l : List Fr} {i : Nat} (h : chkK l i ≠ 0) : ∀ n, i ≤ n → chkK l n = chkK l i := by
  intro n hn
  induction n with
  | zero => have : i = 0 := by omega
            rw [this]
  | succ n ih =>
    by_cases e : i = n + 1
    · rw [e]
    · have := ih (by omega)
      show (if chkK l n = 0 then _ else _) = _
      rw [this, if_neg h]
theorem chkK_next {l : List Fr} {i : Nat} (h : chkK l i = 0) : chkK l (i + 1) = stepQ l i := if_pos h
theorem chkK_zero {l : List Fr} : ∀ {n}, chkK l n = 0 → ∀ i, i < n → stepQ l i = 0
  | 0, _, i, hi => absurd hi (Nat.not_lt_zero _)
  | n + 1, h, i, hi => by
    by_cases h0 : chkK l n = 0
    · rw [chkK_next h0] at h
      by_cases e : i = n
      · rw [e]; exact h
      · exact chkK_zero h0 i (by omega)
    · have := chkK_stop h0 (n + 1) (Nat.le_succ _)
      rw [h] at this
      exact absurd this.symm h0
theorem stepQ_ok {l : List Fr} {i : Nat} (hi : i < l.length) (h : stepQ l i = 0) : frE l[i] = 0 ∧ (∀ h0 : 0 < i, ordF (l[i - 1]'(by omega)) l[i]) := by
  unfold stepQ at h
  have e : l.getD i ⟨0, false, false, false, 0, []⟩ = l[i] := by simp [List.getD, hi]
  have e1 : l.getD (i - 1) ⟨0, false, false, false, 0, []⟩ = l[i - 1]'(by omega) := by simp [List.getD, show i - 1 < l.length by omega]
  rw [e, e1] at h
  split at h
  · rename_i h1; exact absurd h h1
  · rename_i h1
    split at h
    · cases h
    · rename_i h2
      refine ⟨by simpa using h1, fun h0 => ?_⟩
      unfold ordF
      rcases Bool.eq_false_or_eq_true (Op.bytesLess (nameL l[i]) (nameL (l[i - 1]'(by omega)))) with h3 | h3
      · exact absurd ⟨h0, h3⟩ h2
      · exact h3
theorem chk_ok {l : List Fr} (h : chkQ l = 0) : l.length ≤ 16 ∧ (∀ f ∈ l, frE f = 0) ∧ SortF l := by
  unfold chkQ at h
  split at h
  · cases h
  · rename_i hl
    have hz := chkK_zero h
    have hs : ∀ i (hi : i < l.length), frE l[i] = 0 ∧ (∀ h0 : 0 < i, ordF (l[i - 1]'(by omega)) l[i]) := fun i hi => stepQ_ok hi (hz i hi)
    refine ⟨by omega, ?_, ?_⟩
    · intro f hf
      obtain ⟨j, hj, rfl⟩ := List.mem_iff_getElem.1 hf
      exact (hs j hj).1
    · refine List.pairwise_iff_getElem.2 ?_
      intro i j hi hj hij
      obtain ⟨k, rfl⟩ : ∃ k, j = i + 1 + k := ⟨j - i - 1, by omega⟩
      clear hij
      induction k with
      | zero => exact (hs (i + 1) hj).2 (by omega)
      | succ k ih => exact ordF_tr (ih (by omega)) ((hs (i + 1 + (k + 1)) hj).2 (by omega))
theorem ok_chk {l : List Fr} (h1 : l.length ≤ 16) (h2 : ∀ f ∈ l, frE f = 0) (h3 : SortF l) : chkQ l = 0 := by
  unfold chkQ
  rw [if_neg (by omega)]
  have hs : ∀ i, i < l.length → stepQ l i = 0 := by
    intro i hi
    unfold stepQ
    have e : l.getD i ⟨0, false, false, false, 0, []⟩ = l[i] := by simp [List.getD, hi]
    have e1 : l.getD (i - 1) ⟨0, false, false, false, 0, []⟩ = l[i - 1]'(by omega) := by simp [List.getD, show i - 1 < l.length by omega]
    rw [e, e1, if_neg (by simpa using h2 _ (List.getElem_mem hi)), if_neg]
    rintro ⟨h0, h⟩
    have := List.pairwise_iff_getElem.1 h3 (i - 1) i (by omega) hi (by omega)
    unfold ordF at this
    rw [this] at h; cases h
  have : ∀ n, n ≤ l.length → chkK l n = 0 := by
    intro n
    induction n with
    | zero => intro _; rfl
    | succ n ih => intro hn; rw [chkK_next (ih (by omega)), hs n (by omega)]
  exact this _ (Nat.le_refl _)
theorem putF_ok {l : List Fr} {f : Fr} (h : chkQ l = 0) (hf : frE f = 0) (hn : l.length < 16) : chkQ (putF l f) = 0 := by
  obtain ⟨h1, h2, h3⟩ := chk_ok h
  refine ok_chk (by rw [putF_len]; omega) (fun y hy => ?_) (putF_sort h3 f)
  rcases (putF_mem l f y).1 hy with rfl | hy
  · exact hf
  · exact h2 y hy
theorem mrgF_ok {a b : List Fr} (ha : chkQ a = 0) (hb : chkQ b = 0) : chkQ ((mrgF a b).take 16) = 0 := by
  obtain ⟨a1, a2, a3⟩ := chk_ok ha
  obtain ⟨b1, b2, _⟩ := chk_ok hb
  refine ok_chk (by simp [List.length_take]; omega) (fun y hy => ?_) ((mrgF_sort b a3).sublist (List.take_sublist _ _))
  rcases (mrgF_mem b a y).1 (List.mem_of_mem_take hy) with hy | hy
  · exact a2 y hy
  · exact b2 y hy
end Bw
end Go.Proofs.YthdffdobkampaaaDoor
