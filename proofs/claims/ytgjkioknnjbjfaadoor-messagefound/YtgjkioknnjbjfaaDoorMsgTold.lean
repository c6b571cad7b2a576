/- Readings by their names: what a map holds that was filled from a list; of no program. -/
import Derived.Test.YtgjkioknnjbjfaaDoorMsgMath
import Derived.Maps.OwnSet
namespace Go.Proofs.YtgjkioknnjbjfaaDoor
open Go.ChangeShapes Go.WideShapes Go.ChangeAt Go.RowKit
namespace Bw
open Sm
abbrev DV := DataW Value
def kyL (nm : ByteArray) : Lit := .string nm.data.toList
theorem kyL_inj {a b : ByteArray} (h : kyL a = kyL b) : a = b := by
  unfold kyL at h
  have h1 : a.data.toList = b.data.toList := by injection h
  have h2 : a.data = b.data := Array.toList_inj.1 h1
  cases a; cases b; simp only at h2; rw [h2]
theorem kyL_ne {a b : ByteArray} (h : a ≠ b) : kyL a ≠ kyL b := fun e => h (kyL_inj e)
theorem kyL_key (a : ByteArray) : WideAt.IsKeyLit (kyL a) := trivial
def rdVal (r : Rd) : Value := .agg #[.string r.nm, .int .i64 r.num, .int .i64 r.den]
theorem rdVal_inj {a b : Rd} (h : rdVal a = rdVal b) : a = b := by
  unfold rdVal at h
  simp only [Value.agg.injEq] at h
  have h1 := congrArg Array.toList h
  simp only [List.cons.injEq, Value.string.injEq, Value.int.injEq, true_and, and_true] at h1
  obtain ⟨h2, h3, h4⟩ := h1
  cases a; cases b; simp only at h2 h3 h4; rw [h2, h3, h4]
def nR : Rd := ⟨⟨#[]⟩, 0, 0⟩
def rdAt (l : List Rd) (i : Nat) : Rd := l.getD i nR
theorem rdAt_append {l : List Rd} {r : Rd} {i : Nat} (h : i < l.length) : rdAt (l ++ [r]) i = rdAt l i := by
  unfold rdAt
  simp [List.getD, List.getElem?_append_left h]
theorem rdAt_last (l : List Rd) (r : Rd) : rdAt (l ++ [r]) l.length = r := by
  unfold rdAt
  simp [List.getD]
/-- no two have one name -/
def NoTwo (l : List Rd) : Prop := ∀ i j, i < j → j < l.length → (rdAt l i).nm ≠ (rdAt l j).nm
/-- a map that was filled from a list -/
structure Told (D : DV) (l : List Rd) : Prop where
  tidy : Maps.Tidy D
  has : ∀ nm, Maps.has D (kyL nm) = true ↔ ∃ i, i < l.length ∧ (rdAt l i).nm = nm
  val : ∀ i, i < l.length → (∀ j, i < j → j < l.length → (rdAt l i).nm ≠ (rdAt l j).nm) → ∀ z, D.atKey (kyL (rdAt l i).nm) z = .held (rdVal (rdAt l i))
  le : Maps.size D ≤ l.length
  eq : Maps.size D = l.length ↔ NoTwo l
theorem Told.nil : Told (.map []) [] :=
  ⟨Maps.tidy_empty, fun nm => ⟨fun h => (by cases h), fun ⟨i, hi, _⟩ => absurd hi (Nat.not_lt_zero _)⟩, fun i hi => absurd hi (Nat.not_lt_zero _), Nat.le_refl _, ⟨fun _ i j _ hj => absurd hj (Nat.not_lt_zero _), fun _ => rfl⟩⟩
theorem Told.snoc {D : DV} {l : List Rd} (h : Told D l) (r : Rd) : Told (D.put (kyL r.nm) (.held (rdVal r))) (l ++ [r]) := by
  have hL : (l ++ [r]).length = l.length + 1 := by simp
  have hm := h.tidy.isMap
  have hhas : ∀ nm, Maps.has (D.put (kyL r.nm) (.held (rdVal r))) (kyL nm) = true ↔ ∃ i, i < (l ++ [r]).length ∧ (rdAt (l ++ [r]) i).nm = nm := by
    intro nm
    by_cases e : nm = r.nm
    · subst e
      rw [Maps.has_put_same hm (kyL_key _)]
      exact ⟨fun _ => ⟨l.length, by omega, by rw [rdAt_last]⟩, fun _ => rfl⟩
    · rw [Maps.has_put_other (kyL_ne e), h.has]
      constructor
      · rintro ⟨i, hi, rfl⟩
        exact ⟨i, by omega, by rw [rdAt_append hi]⟩
      · rintro ⟨i, hi, he⟩
        by_cases e2 : i = l.length
        · subst e2; rw [rdAt_last] at he; exact absurd he.symm e
        · have hi' : i < l.length := by omega
          rw [rdAt_append hi'] at he
          exact ⟨i, hi', he⟩
  have hsz := Maps.size_put (k := kyL r.nm) h.tidy (DataW.held (rdVal r))
  refine ⟨h.tidy.put (kyL_key _) _, hhas, ?_, ?_, ?_⟩
  · intro i hi hno z
    by_cases e : i = l.length
    · subst e
      rw [rdAt_last]
      exact Maps.atKey_put_same hm (kyL_key _) _ _
    · have hi' : i < l.length := by omega
      have h1 := hno l.length (by omega) (by omega)
      rw [rdAt_last, rdAt_append hi'] at h1
      rw [rdAt_append hi', Maps.atKey_put_other (kyL_ne h1)]
      refine h.val i hi' (fun j hj hj2 => ?_) z
      have h2 := hno j hj (by omega)
      rw [rdAt_append hi', rdAt_append hj2] at h2
      exact h2
  · rw [hsz, hL]
    have := h.le
    split <;> omega
  · rw [hsz, hL]
    cases hq : Maps.has D (kyL r.nm) with
    | true =>
      simp only [if_true]
      obtain ⟨i, hi, he⟩ := (h.has r.nm).1 hq
      constructor
      · intro e; have := h.le; omega
      · intro hn
        have := hn i l.length hi (by omega)
        rw [rdAt_append hi, rdAt_last] at this
        exact absurd he this
    | false =>
      simp only [Bool.false_eq_true, if_false]
      constructor
      · intro e
        have hn := h.eq.1 (by omega)
        intro i j hij hj
        by_cases e2 : j = l.length
        · subst e2
          rw [rdAt_append hij, rdAt_last]
          intro e3
          rw [(h.has r.nm).2 ⟨i, hij, e3⟩] at hq
          cases hq
        · have hj' : j < l.length := by omega
          rw [rdAt_append (by omega), rdAt_append hj']
          exact hn i j hij hj'
      · intro hn
        have : NoTwo l := fun i j hij hj => by
          have := hn i j hij (by omega)
          rw [rdAt_append (by omega), rdAt_append hj] at this
          exact this
        have := h.eq.2 this
        omega
/-- which is the first of a name -/
def findR (l : List Rd) (nm : ByteArray) : Option Rd := l.find? (fun r => decide (r.nm = nm))
theorem findR_some {l : List Rd} {nm : ByteArray} {r : Rd} (h : findR l nm = some r) : ∃ i, i < l.length ∧ rdAt l i = r ∧ r.nm = nm := by
  unfold findR at h
  have h1 := List.mem_of_find?_eq_some h
  have h2 := List.find?_some h
  obtain ⟨i, hi, rfl⟩ := List.getElem_of_mem h1
  exact ⟨i, hi, by unfold rdAt; simp [List.getD, hi], by simpa using h2⟩
theorem findR_none {l : List Rd} {nm : ByteArray} (h : findR l nm = none) : ∀ i, i < l.length → (rdAt l i).nm ≠ nm := by
  unfold findR at h
  intro i hi
  have := List.find?_eq_none.1 h l[i] (List.getElem_mem hi)
  unfold rdAt
  simpa [List.getD, hi] using this
/-- a map from which some names are taken out again -/
structure Left (D : DV) (l : List Rd) (used : List ByteArray) : Prop where
  tidy : Maps.Tidy D
  none : ∀ nm, findR l nm = none → Maps.has D (kyL nm) = false
  some : ∀ nm r, findR l nm = .some r → nm ∉ used → Maps.has D (kyL nm) = true ∧ ∀ z, D.atKey (kyL nm) z = .held (rdVal r)
  size : Maps.size D + used.length = l.length
theorem Told.left {D : DV} {l : List Rd} (h : Told D l) (hn : NoTwo l) : Left D l [] := by
  refine ⟨h.tidy, fun nm hf => ?_, fun nm r hf _ => ?_, by simpa using h.eq.2 hn⟩
  · cases hq : Maps.has D (kyL nm) with
    | false => rfl
    | true =>
      obtain ⟨i, hi, he⟩ := (h.has nm).1 hq
      exact absurd he (findR_none hf i hi)
  · obtain ⟨i, hi, e1, e2⟩ := findR_some hf
    subst e2
    refine ⟨(h.has _).2 ⟨i, hi, by rw [e1]⟩, fun z => ?_⟩
    have := h.val i hi (fun j hj hj2 => hn i j hj hj2) z
    rw [e1] at this
    exact this
theorem Left.take {D : DV} {l : List Rd} {used : List ByteArray} (h : Left D l used) {nm : ByteArray} {r : Rd} (hf : findR l nm = .some r) (hu : nm ∉ used) : Left (D.del (kyL nm)) l (used ++ [nm]) := by
  refine ⟨h.tidy.del _, fun x hx => ?_, fun x y hx hy => ?_, ?_⟩
  · have : x ≠ nm := fun e => by subst e; rw [hx] at hf; cases hf
    rw [Maps.has_del_other (kyL_ne this)]
    exact h.none x hx
  · have h1 : x ∉ used := fun e => hy (List.mem_append_left _ e)
    have h2 : x ≠ nm := fun e => hy (by rw [e]; simp)
    rw [Maps.has_del_other (kyL_ne h2)]
    refine ⟨(h.some x y hx h1).1, fun z => ?_⟩
    rw [Maps.atKey_del_other (kyL_ne h2)]
    exact (h.some x y hx h1).2 z
  · have h1 := Maps.size_del (k := kyL nm) h.tidy
    rw [if_pos (h.some nm r hf hu).1] at h1
    have h2 := h.size
    simp only [List.length_append, List.length_cons, List.length_nil]
    omega
end Bw
end Go.Proofs.YtgjkioknnjbjfaaDoor
