/- Filling a message's bytes, by whatever way a signal is put; of no program. -/
import Derived.Test.YtgjkioknnjbjfaaDoorMgPut
namespace Go.Proofs.YtgjkioknnjbjfaaDoor
open Go.ChangeShapes Go.WideShapes Go.ChangeAt Go.RowKit
namespace Bw
open Sm
abbrev PutF := Sig → List UInt8 → Int × List UInt8
def goE (put : PutF) : List Sig → List UInt8 → Int × List UInt8
  | [], d => (0, d)
  | s :: r, d => if (put s d).1 = 0 then goE put r (put s d).2 else ((put s d).1, [])
theorem goE_snoc {put : PutF} {s : Sig} : ∀ {l : List Sig} {d d' : List UInt8}, goE put l d = (0, d') → (put s d').1 = 0 → goE put (l ++ [s]) d = (0, (put s d').2)
  | [], d, d', h, hs => by
    have e : d = d' := by simpa [goE] using h
    subst e
    show goE put [s] d = _
    simp only [goE, if_pos hs]
  | x :: r, d, d', h, hs => by
    by_cases hx : (put x d).1 = 0
    · simp only [goE, if_pos hx] at h
      rw [List.cons_append]
      simp only [goE, if_pos hx]
      exact goE_snoc h hs
    · simp only [goE, if_neg hx] at h
      exact absurd (congrArg Prod.fst h) hx
theorem goE_fail {put : PutF} {s : Sig} {t : List Sig} : ∀ {l : List Sig} {d d' : List UInt8}, goE put l d = (0, d') → (put s d').1 ≠ 0 → goE put (l ++ s :: t) d = ((put s d').1, [])
  | [], d, d', h, hs => by
    have e : d = d' := by simpa [goE] using h
    subst e
    show goE put (s :: t) d = _
    simp only [goE, if_neg hs]
  | x :: r, d, d', h, hs => by
    by_cases hx : (put x d).1 = 0
    · simp only [goE, if_pos hx] at h
      rw [List.cons_append]
      simp only [goE, if_pos hx]
      exact goE_fail h hs
    · simp only [goE, if_neg hx] at h
      exact absurd (congrArg Prod.fst h) hx
/-- the other signals that are there, of the first k -/
def othB (m : Msg) (c : Int) (i : Nat) : Bool := !((i : Int) == m.ch) && thB c (m.at i)
def othK (m : Msg) (c : Int) (k : Nat) : List Sig := ((List.range k).filter (othB m c)).map m.at
theorem othK_yes (m : Msg) (c : Int) {k : Nat} (h : othB m c k = true) : othK m c (k + 1) = othK m c k ++ [m.at k] := by
  unfold othK
  rw [List.range_succ, List.filter_append, List.map_append]
  simp [h]
theorem othK_no (m : Msg) (c : Int) {k : Nat} (h : othB m c k = false) : othK m c (k + 1) = othK m c k := by
  unfold othK
  rw [List.range_succ, List.filter_append, List.map_append]
  simp [h]
theorem othK_more (m : Msg) (c : Int) {k : Nat} (h : othB m c k = true) : ∀ {n : Nat}, k < n → ∃ t, othK m c n = othK m c k ++ m.at k :: t
  | 0, hn => absurd hn (Nat.not_lt_zero _)
  | n + 1, hn => by
    by_cases e : n = k
    · subst e; exact ⟨[], othK_yes m c h⟩
    · obtain ⟨t, ht⟩ := othK_more m c h (n := n) (by omega)
      cases hb : othB m c n with
      | true => exact ⟨t ++ [m.at n], by rw [othK_yes m c hb, ht]; simp⟩
      | false => exact ⟨t, by rw [othK_no m c hb, ht]⟩
def zerosM (m : Msg) : List UInt8 := List.replicate m.size.toNat 0
/-- the bytes ahead of the other signals, and the error -/
def chooE (put : PutF) (m : Msg) : Int × List UInt8 := if 0 ≤ m.ch then put (m.at m.ch.toNat) (zerosM m) else (0, zerosM m)
def fillE (put : PutF) (m : Msg) : Int × List UInt8 :=
  if (chooE put m).1 = 0 then goE put (othK m (choD m (chooE put m).2) m.sigs.length) (chooE put m).2 else ((chooE put m).1, [])
def usedL (put : PutF) (m : Msg) : List ByteArray := (if 0 ≤ m.ch then [(m.at m.ch.toNat).nm] else []) ++ (othK m (choD m (chooE put m).2) m.sigs.length).map Sig.nm
/-- which names are used -/
def UsK (S : Nat → Sig) (mch : Int) (mn k : Nat) (us : List ByteArray) : Prop := ∀ x ∈ us, ∃ j, (j < k ∨ (j : Int) = mch) ∧ j < mn ∧ x = (S j).nm
theorem UsK.start {S : Nat → Sig} {mch : Int} {mn : Nat} {us : List ByteArray} (h : ∀ x ∈ us, ∃ j : Nat, (j : Int) = mch ∧ j < mn ∧ x = (S j).nm) : UsK S mch mn 0 us := fun x hx => by
  obtain ⟨j, h1, h2, h3⟩ := h x hx
  exact ⟨j, .inr h1, h2, h3⟩
theorem UsK.next {S : Nat → Sig} {mch : Int} {mn k : Nat} {us : List ByteArray} (h : UsK S mch mn k us) : UsK S mch mn (k + 1) us := fun x hx => by
  obtain ⟨j, h1, h2, h3⟩ := h x hx
  exact ⟨j, by omega, h2, h3⟩
theorem UsK.snoc {S : Nat → Sig} {mch : Int} {mn k : Nat} {us : List ByteArray} (h : UsK S mch mn k us) (hk : k < mn) : UsK S mch mn (k + 1) (us ++ [(S k).nm]) := fun x hx => by
  rw [List.mem_append] at hx
  rcases hx with hx | hx
  · exact h.next x hx
  · exact ⟨k, .inl (by omega), hk, by simpa using hx⟩
theorem UsK.free {S : Nat → Sig} {mch : Int} {mn k : Nat} {us : List ByteArray} (h : UsK S mch mn k us) (hk : k < mn) (hne : (k : Int) ≠ mch) (hap : ∀ i j, i < mn → j < mn → i ≠ j → (S i).nm ≠ (S j).nm) : (S k).nm ∉ us := fun hmem => by
  obtain ⟨j, h1, h2, h3⟩ := h _ hmem
  exact hap k j hk h2 (by intro e; subst e; rcases h1 with h1 | h1 <;> omega) h3
/-- what fill answers -/
def FillP (p : Int × List UInt8) (Iv : World → Prop) (bm len : Nat) (w : World) (e : Ending) (w' : World) : Prop :=
  GM bm w w' ∧ ((p.1 ≠ 0 ∧ e = .returned (.tuple #[.slice none 0 0, .int .i64 p.1])) ∨ (p.1 = 0 ∧ ∃ a' c, e = .returned (.tuple #[.slice a' len c, .int .i64 0]) ∧ IsBytes w' a' len c p.2 ∧ Iv w'))
theorem OkM.apart {m : Msg} (h : OkM m) {i j : Nat} (hi : i < m.sigs.length) (hj : j < m.sigs.length) (hne : i ≠ j) : (m.at i).nm ≠ (m.at j).nm := by
  rcases Nat.lt_or_ge i j with hlt | hge
  · exact (bes_parts (h.bes hj hlt)).1
  · exact fun e => (bes_parts (h.bes hi (by omega : j < i))).1 e.symm
theorem nm_small {s : Sig} {n : Int} (h : chkS s n = 0) : s.nm.size ≤ maxLen := by
  have h1 := (chk_size h).1
  unfold nameB at h1
  rw [Bool.and_eq_true, Bool.and_eq_true, Bool.and_eq_true] at h1
  have h2 : s.nm.data.toList.length ≤ 16 := by simpa using h1.1.1.2
  have h3 := sz_len s.nm
  unfold maxLen
  omega
end Bw
end Go.Proofs.YtgjkioknnjbjfaaDoor
