/- Plain facts on rows with a bit put in behind five alike, as lists of bytes; of no program. -/
import Derived.Test.YtgjkioknnjbjfaaDoorBitsMath
namespace Go.Proofs.YtgjkioknnjbjfaaDoor.Bm

/-- the other bit -/
def otb (c : UInt8) : UInt8 := if c = 48 then 49 else 48
/-- the run under way: its bit and its length -/
def addR (p : UInt8 × Nat) (c : UInt8) : UInt8 × Nat := if c = p.1 then (c, p.2 + 1) else (c, 1)
def endR (l : List UInt8) : UInt8 × Nat := l.foldl addR (0, 0)
def putS (o : List UInt8) (c : UInt8) : List UInt8 := if (endR (o ++ [c])).2 = 5 then o ++ [c] ++ [otb c] else o ++ [c]
def putF (l : List UInt8) : List UInt8 := l.foldl putS []

theorem otb_bit (c : UInt8) : bit (otb c) = true := by unfold otb; split <;> rfl
theorem otb_ne {c : UInt8} (h : bit c = true) : otb c ≠ c := by
  have h' := (bit_iff c).1 h
  unfold otb
  split
  · rename_i e; subst e; decide
  · rename_i e; exact fun e' => e e'.symm
theorem otb_otb {c : UInt8} (h : bit c = true) : otb (otb c) = c := by
  rcases (bit_iff c).1 h with h | h
  · have : c = 48 := UInt8.toNat_inj.1 (by show c.toNat = 48; omega)
    subst this; rfl
  · have : c = 49 := UInt8.toNat_inj.1 (by show c.toNat = 49; omega)
    subst this; rfl
theorem otb_val {c : UInt8} (h : bit c = true) : ((otb c).toNat : Int) = 97 - (c.toNat : Int) := by
  rcases (bit_iff c).1 h with h | h
  · have : c = 48 := UInt8.toNat_inj.1 (by show c.toNat = 48; omega)
    subst this; rfl
  · have : c = 49 := UInt8.toNat_inj.1 (by show c.toNat = 49; omega)
    subst this; rfl

theorem endR_snoc (l : List UInt8) (c : UInt8) : endR (l ++ [c]) = addR (endR l) c := by simp [endR]
theorem addR_1 (p : UInt8 × Nat) (c : UInt8) : (addR p c).1 = c := by unfold addR; split <;> rfl
theorem addR_pos (p : UInt8 × Nat) (c : UInt8) : 1 ≤ (addR p c).2 ∧ (addR p c).2 ≤ p.2 + 1 := by unfold addR; split <;> simp
theorem addR_same (p : UInt8 × Nat) : addR p p.1 = (p.1, p.2 + 1) := by unfold addR; rw [if_pos rfl]
theorem addR_other {p : UInt8 × Nat} {c : UInt8} (h : c ≠ p.1) : addR p c = (c, 1) := by unfold addR; rw [if_neg h]

theorem putF_snoc (l : List UInt8) (c : UInt8) : putF (l ++ [c]) = putS (putF l) c := by simp [putF]
theorem putF_nil : putF [] = [] := rfl

theorem snocInd {p : List UInt8 → Prop} (h0 : p []) (h1 : ∀ l c, p l → p (l ++ [c])) (l : List UInt8) : p l := by
  have : ∀ r : List UInt8, p r.reverse := by
    intro r
    induction r with
    | nil => exact h0
    | cons c r ih => rw [List.reverse_cons]; exact h1 _ _ ih
  have := this l.reverse
  rwa [List.reverse_reverse] at this

theorem endR_tail (l : List UInt8) : ∃ t, l = t ++ List.replicate (endR l).2 (endR l).1 := by
  induction l using snocInd with
  | h0 => exact ⟨[], rfl⟩
  | h1 l c ih =>
    obtain ⟨t, ht⟩ := ih
    rw [endR_snoc]
    by_cases h : c = (endR l).1
    · subst h
      rw [addR_same]
      refine ⟨t, ?_⟩
      simp only
      rw [List.replicate_succ', ← List.append_assoc, ← ht]
    · rw [addR_other h]
      exact ⟨l, rfl⟩
theorem endR_le (l : List UInt8) : (endR l).2 ≤ l.length := by
  obtain ⟨t, ht⟩ := endR_tail l
  have := congrArg List.length ht
  rw [List.length_append, List.length_replicate] at this
  omega
theorem endR_pos {l : List UInt8} (h : l ≠ []) : 1 ≤ (endR l).2 := by
  obtain ⟨a, c, rfl⟩ : ∃ a c, l = a ++ [c] := ⟨l.dropLast, l.getLast h, (List.dropLast_concat_getLast h).symm⟩
  rw [endR_snoc]; exact (addR_pos _ _).1
theorem endR_rep (t : List UInt8) (c : UInt8) (k : Nat) : k ≤ (endR (t ++ List.replicate k c)).2 := by
  induction k with
  | zero => omega
  | succ k ih =>
    rw [List.replicate_succ', ← List.append_assoc, endR_snoc]
    cases k with
    | zero => exact (addR_pos _ _).1
    | succ k =>
      have e1 : (endR (t ++ List.replicate (k + 1) c)).1 = c := by
        rw [List.replicate_succ', ← List.append_assoc, endR_snoc, addR_1]
      have e2 := addR_same (endR (t ++ List.replicate (k + 1) c))
      rw [e1] at e2
      rw [e2]
      show k + 1 + 1 ≤ _ + 1
      omega

/-- what the document's answer looks at: the last five are as often the last one as they are many -/
theorem five_iff (l : List UInt8) (h : (endR l).2 ≤ 5) (h5 : 5 ≤ l.length) (c : UInt8) (hc : l.getD (l.length - 1) 0 = c) : (l.drop (l.length - 5)).count c = 5 ↔ (endR l).2 = 5 := by
  have hlen : (l.drop (l.length - 5)).length = 5 := by rw [List.length_drop]; omega
  constructor
  · intro hcnt
    have hall : ∀ x ∈ l.drop (l.length - 5), c = x := List.count_eq_length.1 (by rw [hcnt, hlen])
    have hrep : l.drop (l.length - 5) = List.replicate 5 c := List.eq_replicate_iff.2 ⟨hlen, fun x hx => (hall x hx).symm⟩
    have hl : l = l.take (l.length - 5) ++ List.replicate 5 c := by rw [← hrep, List.take_append_drop]
    have := endR_rep (l.take (l.length - 5)) c 5
    rw [← hl] at this
    omega
  · intro h5'
    obtain ⟨t, ht⟩ := endR_tail l
    rw [h5'] at ht
    generalize (endR l).1 = d at ht
    have hd : d = c := by
      rw [← hc, ht]
      simp [List.getD]
    subst hd
    rw [ht]
    simp

theorem putS_keep (o : List UInt8) (c : UInt8) (h : bit c = true) (h4 : (endR o).2 ≤ 4) : (endR (putS o c)).2 ≤ 4 := by
  unfold putS
  have h1 := addR_pos (endR o) c
  have hs := endR_snoc o c
  by_cases h5 : (endR (o ++ [c])).2 = 5
  · rw [if_pos h5, endR_snoc, endR_snoc]
    have : otb c ≠ (addR (endR o) c).1 := by rw [addR_1]; exact otb_ne h
    rw [addR_other this]; simp
  · rw [if_neg h5]; rw [hs] at h5 ⊢; omega
theorem putF_keep (l : List UInt8) (h : rowB l = true) : (endR (putF l)).2 ≤ 4 := by
  induction l using snocInd with
  | h0 => decide
  | h1 l c ih =>
    rw [rowB_snoc] at h
    simp only [Bool.and_eq_true] at h
    rw [putF_snoc]
    exact putS_keep _ _ h.2 (ih h.1)
theorem putS_len (o : List UInt8) (c : UInt8) : (putS o c).length ≤ o.length + 2 ∧ o.length + 1 ≤ (putS o c).length := by
  unfold putS; split <;> simp
theorem putF_len2 (l : List UInt8) : (putF l).length ≤ 2 * l.length := by
  induction l using snocInd with
  | h0 => decide
  | h1 l c ih =>
    rw [putF_snoc, List.length_append]
    have := (putS_len (putF l) c).1
    simp only [List.length_singleton]
    omega
theorem putS_row (o : List UInt8) (c : UInt8) (h : bit c = true) (ho : rowB o = true) : rowB (putS o c) = true := by
  unfold putS
  split
  · rw [rowB_snoc, rowB_snoc, ho, h, otb_bit]; rfl
  · rw [rowB_snoc, ho, h]; rfl
theorem putF_row (l : List UInt8) (h : rowB l = true) : rowB (putF l) = true := by
  induction l using snocInd with
  | h0 => rfl
  | h1 l c ih =>
    rw [rowB_snoc] at h
    simp only [Bool.and_eq_true] at h
    rw [putF_snoc]
    exact putS_row _ _ h.2 (ih h.1)

/-- how many bits there are at most -/
theorem putF_most (l : List UInt8) (h : rowB l = true) : ∃ k, (putF l).length = l.length + k ∧ 4 * k + (endR (putF l)).2 ≤ l.length := by
  induction l using snocInd with
  | h0 => exact ⟨0, rfl, by decide⟩
  | h1 l c ih =>
    rw [rowB_snoc] at h
    simp only [Bool.and_eq_true] at h
    obtain ⟨k, h1, h2⟩ := ih h.1
    have h4 := putF_keep l h.1
    rw [putF_snoc]
    unfold putS
    have hs := endR_snoc (putF l) c
    have ha := addR_pos (endR (putF l)) c
    by_cases h5 : (endR (putF l ++ [c])).2 = 5
    · rw [if_pos h5]
      refine ⟨k + 1, by simp only [List.length_append, List.length_singleton]; omega, ?_⟩
      rw [endR_snoc, endR_snoc]
      have hne : otb c ≠ (addR (endR (putF l)) c).1 := by rw [addR_1]; exact otb_ne h.2
      rw [addR_other hne]
      rw [hs] at h5
      simp only [List.length_append, List.length_singleton]
      omega
    · rw [if_neg h5]
      refine ⟨k, by simp only [List.length_append, List.length_singleton]; omega, ?_⟩
      rw [hs]
      simp only [List.length_append, List.length_singleton]
      omega

/-- a piece in front of what is put in is a piece in front of the whole -/
theorem putF_append (a b : List UInt8) : ∃ t, putF (a ++ b) = putF a ++ t := by
  induction b using snocInd with
  | h0 => exact ⟨[], by simp⟩
  | h1 b c ih =>
    obtain ⟨t, ht⟩ := ih
    rw [← List.append_assoc, putF_snoc, ht]
    unfold putS
    split
    · exact ⟨t ++ [c] ++ [otb c], by simp only [List.append_assoc]⟩
    · exact ⟨t ++ [c], by simp only [List.append_assoc]⟩

/-- no part of what Put made that starts where it starts ends in six alike -/
theorem putF_ends (l : List UInt8) (h : rowB l = true) : ∀ k, (endR ((putF l).take k)).2 ≤ 5 := by
  induction l using snocInd with
  | h0 => intro k; rw [putF_nil, List.take_nil]; decide
  | h1 l c ih =>
    rw [rowB_snoc] at h
    simp only [Bool.and_eq_true] at h
    intro k
    have h4 := putF_keep l h.1
    have hk := ih h.1 k
    rw [putF_snoc]
    have ha := addR_pos (endR (putF l)) c
    have hs := endR_snoc (putF l) c
    have key : ∀ j, (endR ((putF l ++ [c]).take j)).2 ≤ 5 := by
      intro j
      by_cases hj : j ≤ (putF l).length
      · rw [List.take_append_of_le_length hj]; exact ih h.1 j
      · rw [List.take_of_length_le (by simp; omega), hs]; omega
    unfold putS
    split
    · by_cases hj : k ≤ (putF l ++ [c]).length
      · rw [List.take_append_of_le_length hj]; exact key k
      · rw [List.take_of_length_le (by simp at hj ⊢; omega), endR_snoc, endR_snoc]
        have hne : otb c ≠ (addR (endR (putF l)) c).1 := by rw [addR_1]; exact otb_ne h.2
        rw [addR_other hne]; simp
    · exact key k

/-- what is put into a row that is turned is turned -/
theorem endR_turn (l : List UInt8) (h : rowB l = true) : (endR (l.map otb)).2 = (endR l).2 ∧ (l ≠ [] → (endR (l.map otb)).1 = otb (endR l).1 ∧ bit (endR l).1 = true) := by
  induction l using snocInd with
  | h0 => exact ⟨rfl, fun h => absurd rfl h⟩
  | h1 l c ih =>
    rw [rowB_snoc] at h
    simp only [Bool.and_eq_true] at h
    obtain ⟨g1, g2⟩ := ih h.1
    rw [List.map_append, List.map_cons, List.map_nil, endR_snoc, endR_snoc]
    refine ⟨?_, fun _ => by rw [addR_1, addR_1]; exact ⟨rfl, h.2⟩⟩
    by_cases hl : l = []
    · subst hl
      have e1 : c ≠ (endR []).1 := fun e => by rw [e] at h; exact absurd h.2 (by decide)
      have e2 : otb c ≠ (endR (List.map otb [])).1 := fun e => by have := otb_bit c; rw [e] at this; exact absurd this (by decide)
      rw [addR_other e1, addR_other e2]
    · obtain ⟨g3, g4⟩ := g2 hl
      by_cases hc : c = (endR l).1
      · have e1 : otb c = (endR (l.map otb)).1 := by rw [g3, hc]
        unfold addR
        rw [if_pos hc, if_pos e1]
        simp only [g1]
      · have e1 : otb c ≠ (endR (l.map otb)).1 := by
          rw [g3]
          intro e
          have := congrArg otb e
          rw [otb_otb h.2, otb_otb g4] at this
          exact hc this
        rw [addR_other hc, addR_other e1]
theorem putF_turn (l : List UInt8) (h : rowB l = true) : putF (l.map otb) = (putF l).map otb := by
  induction l using snocInd with
  | h0 => rfl
  | h1 l c ih =>
    rw [rowB_snoc] at h
    simp only [Bool.and_eq_true] at h
    rw [List.map_append, List.map_cons, List.map_nil, putF_snoc, putF_snoc, ih h.1]
    unfold putS
    have hr : rowB (putF l ++ [c]) = true := by rw [rowB_snoc, putF_row l h.1, h.2]; rfl
    have e := (endR_turn _ hr).1
    rw [List.map_append, List.map_cons, List.map_nil] at e
    rw [e]
    split
    · simp
    · simp

/-- the same, told by the first of the five -/
theorem five_iff' (l : List UInt8) (h : (endR l).2 ≤ 5) (h5 : 5 ≤ l.length) (c : UInt8) (hc : l.getD (l.length - 5) 0 = c) : (l.drop (l.length - 5)).count c = 5 ↔ (endR l).2 = 5 := by
  have hlen : (l.drop (l.length - 5)).length = 5 := by rw [List.length_drop]; omega
  constructor
  · intro hcnt
    have hall : ∀ x ∈ l.drop (l.length - 5), c = x := List.count_eq_length.1 (by rw [hcnt, hlen])
    have hrep : l.drop (l.length - 5) = List.replicate 5 c := List.eq_replicate_iff.2 ⟨hlen, fun x hx => (hall x hx).symm⟩
    have hl : l = l.take (l.length - 5) ++ List.replicate 5 c := by rw [← hrep, List.take_append_drop]
    have := endR_rep (l.take (l.length - 5)) c 5
    rw [← hl] at this
    omega
  · intro h5'
    obtain ⟨t, ht⟩ := endR_tail l
    rw [h5'] at ht
    generalize (endR l).1 = d at ht
    have hd : d = c := by
      rw [← hc, ht]
      simp [List.getD]
    subst hd
    rw [ht]
    simp

/-- what Take does with so many rounds to go: the bits, how many of the row, the error -/
def takeG (b : List UInt8) : Nat → Nat → List UInt8 → List UInt8 × Nat × Int
  | 0, u, o => (o, u, 0)
  | m + 1, u, o =>
    if b.length ≤ u then ([], 0, 7)
    else if (endR (b.take (u + 1))).2 = 5 then
      (if b.length ≤ u + 1 then ([], 0, 7)
      else if b.getD (u + 1) 0 = b.getD u 0 then ([], 0, 5)
      else takeG b m (u + 2) (o ++ [b.getD u 0]))
    else takeG b m (u + 1) (o ++ [b.getD u 0])

theorem takeG_zero (b : List UInt8) (u : Nat) (o : List UInt8) : takeG b 0 u o = (o, u, 0) := rfl
theorem takeG_end (b : List UInt8) (m u : Nat) (o : List UInt8) (h : b.length ≤ u) : takeG b (m + 1) u o = ([], 0, 7) := by rw [takeG, if_pos h]
theorem takeG_on (b : List UInt8) (m u : Nat) (o : List UInt8) (h : u < b.length) (h5 : (endR (b.take (u + 1))).2 ≠ 5) : takeG b (m + 1) u o = takeG b m (u + 1) (o ++ [b.getD u 0]) := by
  rw [takeG, if_neg (by omega), if_neg h5]
theorem takeG_end5 (b : List UInt8) (m u : Nat) (o : List UInt8) (h : b.length = u + 1) (h5 : (endR (b.take (u + 1))).2 = 5) : takeG b (m + 1) u o = ([], 0, 7) := by
  rw [takeG, if_neg (by omega), if_pos h5, if_pos (by omega)]
theorem takeG_six (b : List UInt8) (m u : Nat) (o : List UInt8) (h : u + 1 < b.length) (h5 : (endR (b.take (u + 1))).2 = 5) (h6 : b.getD (u + 1) 0 = b.getD u 0) : takeG b (m + 1) u o = ([], 0, 5) := by
  rw [takeG, if_neg (by omega), if_pos h5, if_neg (by omega), if_pos h6]
theorem takeG_on5 (b : List UInt8) (m u : Nat) (o : List UInt8) (h : u + 1 < b.length) (h5 : (endR (b.take (u + 1))).2 = 5) (h6 : b.getD (u + 1) 0 ≠ b.getD u 0) : takeG b (m + 1) u o = takeG b m (u + 2) (o ++ [b.getD u 0]) := by
  rw [takeG, if_neg (by omega), if_pos h5, if_neg (by omega), if_neg h6]

theorem take_getD (b : List UInt8) (u : Nat) (h : u < b.length) : b.take (u + 1) = b.take u ++ [b.getD u 0] := by
  rw [List.take_succ_eq_append_getElem h]
  simp [List.getD, h]
theorem end_next (b : List UInt8) (u : Nat) (h : u < b.length) : endR (b.take (u + 1)) = addR (endR (b.take u)) (b.getD u 0) := by
  rw [take_getD b u h, endR_snoc]
theorem end_on (b : List UInt8) (u : Nat) (h : u < b.length) (h4 : (endR (b.take u)).2 ≤ 4) (h5 : (endR (b.take (u + 1))).2 ≠ 5) : (endR (b.take (u + 1))).2 ≤ 4 := by
  rw [end_next b u h] at h5 ⊢
  have := addR_pos (endR (b.take u)) (b.getD u 0)
  omega
theorem end_five (b : List UInt8) (u : Nat) (h : u < b.length) (h4 : (endR (b.take u)).2 ≤ 4) : (endR (b.take (u + 1))).2 ≤ 5 := by
  rw [end_next b u h]
  have := addR_pos (endR (b.take u)) (b.getD u 0)
  omega
theorem end_on5 (b : List UInt8) (u : Nat) (h : u + 1 < b.length) (h6 : b.getD (u + 1) 0 ≠ b.getD u 0) : endR (b.take (u + 2)) = (b.getD (u + 1) 0, 1) := by
  rw [end_next b (u + 1) h]
  apply addR_other
  rw [end_next b u (by omega), addR_1]
  exact h6

theorem takeG_ok (b : List UInt8) (m : Nat) : ∀ u o o' u', takeG b m u o = (o', u', 0) → o'.length = o.length + m ∧ u ≤ u' ∧ o <+: o' := by
  induction m with
  | zero =>
    intro u o o' u' h
    rw [takeG_zero] at h
    obtain ⟨rfl, h2⟩ := Prod.mk.inj h
    obtain ⟨rfl, _⟩ := Prod.mk.inj h2
    exact ⟨rfl, Nat.le_refl _, List.prefix_refl _⟩
  | succ m ih =>
    intro u o o' u' h
    rw [takeG] at h
    split at h
    · simp at h
    · split at h
      · split at h
        · simp at h
        · split at h
          · simp at h
          · obtain ⟨g1, g2, g3⟩ := ih _ _ _ _ h
            refine ⟨by rw [g1]; simp; omega, by omega, (List.prefix_append o _).trans g3⟩
      · obtain ⟨g1, g2, g3⟩ := ih _ _ _ _ h
        refine ⟨by rw [g1]; simp; omega, by omega, (List.prefix_append o _).trans g3⟩

theorem takeG_split (b : List UInt8) (m n : Nat) : ∀ u o o' u', takeG b (n + m) u o = (o', u', 0) → ∃ s k, takeG b n u o = (s, k, 0) ∧ takeG b m k s = (o', u', 0) := by
  induction n with
  | zero => intro u o o' u' h; rw [Nat.zero_add] at h; exact ⟨o, u, rfl, h⟩
  | succ n ih =>
    intro u o o' u' h
    rw [Nat.succ_add] at h
    rw [takeG] at h ⊢
    split at h
    · simp at h
    · rename_i c1
      rw [if_neg c1]
      split at h
      · rename_i c2
        rw [if_pos c2]
        split at h
        · simp at h
        · rename_i c3
          rw [if_neg c3]
          split at h
          · simp at h
          · rename_i c4
            rw [if_neg c4]
            exact ih _ _ _ _ h
      · rename_i c2
        rw [if_neg c2]
        exact ih _ _ _ _ h
theorem takeG_err (b : List UInt8) (m : Nat) : ∀ u o, (takeG b m u o).2.2 = 0 ∨ takeG b m u o = ([], 0, 7) ∨ takeG b m u o = ([], 0, 5) := by
  induction m with
  | zero => intro u o; exact .inl rfl
  | succ m ih =>
    intro u o
    rw [takeG]
    split
    · exact .inr (.inl rfl)
    · split
      · split
        · exact .inr (.inl rfl)
        · split
          · exact .inr (.inr rfl)
          · exact ih _ _
      · exact ih _ _

/-- what was put in is taken out, whatever follows -/
theorem take_put (r : List UInt8) (c : List UInt8) : ∀ a, rowB (a ++ c) = true → takeG (putF (a ++ c) ++ r) c.length (putF a).length a = (a ++ c, (putF (a ++ c)).length, 0) := by
  induction c with
  | nil => intro a _; simp [takeG]
  | cons d c ih =>
    intro a h
    have e1 : a ++ d :: c = (a ++ [d]) ++ c := by simp
    have hb : bit d = true := by
      rw [rowB_append] at h
      simp only [Bool.and_eq_true] at h
      have := h.2
      simp [rowB] at this
      exact this.1
    rw [e1] at h ⊢
    have ih' := ih (a ++ [d]) h
    obtain ⟨t, ht⟩ := putF_append (a ++ [d]) c
    generalize hB : putF ((a ++ [d]) ++ c) ++ r = B at *
    have hB' : B = putS (putF a) d ++ (t ++ r) := by rw [← hB, ht, putF_snoc, List.append_assoc]
    have hF : putF (a ++ [d]) = putS (putF a) d := putF_snoc a d
    rw [hF] at ih'
    rw [List.length_cons]
    unfold putS at hB' ih'
    by_cases h5 : (endR (putF a ++ [d])).2 = 5
    · rw [if_pos h5] at hB' ih'
      have hu : (putF a).length + 1 < B.length := by rw [hB']; simp
      have ht1 : B.take ((putF a).length + 1) = putF a ++ [d] := by
        rw [hB', List.append_assoc, List.take_append_of_le_length (by simp)]
        exact List.take_of_length_le (by simp)
      have hg0 : B.getD (putF a).length 0 = d := by rw [hB']; simp [List.getD]
      have hg1 : B.getD ((putF a).length + 1) 0 = otb d := by rw [hB']; simp [List.getD]
      rw [takeG_on5 B _ _ _ hu (by rw [ht1]; exact h5) (by rw [hg0, hg1]; exact otb_ne hb), hg0]
      have el : (putF a ++ [d] ++ [otb d]).length = (putF a).length + 2 := by simp
      rw [el] at ih'
      exact ih'
    · rw [if_neg h5] at hB' ih'
      have hu : (putF a).length < B.length := by rw [hB']; simp
      have ht1 : B.take ((putF a).length + 1) = putF a ++ [d] := by
        rw [hB', List.take_append_of_le_length (by simp)]
        exact List.take_of_length_le (by simp)
      have hg0 : B.getD (putF a).length 0 = d := by rw [hB']; simp [List.getD]
      rw [takeG_on B _ _ _ hu (by rw [ht1]; exact h5), hg0]
      have el : (putF a ++ [d]).length = (putF a).length + 1 := by simp
      rw [el] at ih'
      exact ih'

/-- Fixed: the bit ahead, and the row so far -/
def fixP (l : List UInt8) (a : UInt8) : Nat → UInt8
  | 0 => a
  | i + 1 => l.getD i 0
def fixR (l : List UInt8) (a : UInt8) : Nat → List UInt8
  | 0 => []
  | i + 1 => (if i % 4 = 0 then fixR l a i ++ [otb (fixP l a i)] else fixR l a i) ++ [l.getD i 0]
theorem fixR_block (l : List UInt8) (a : UInt8) (i : Nat) (h : i % 4 = 0) (k : Nat) (hk : 1 ≤ k) (hk4 : k ≤ 4) (hl : i + k ≤ l.length) : fixR l a (i + k) = fixR l a i ++ ([otb (fixP l a i)] ++ (l.drop i).take k) := by
  induction k with
  | zero => omega
  | succ k ih =>
    rw [Nat.add_succ, fixR]
    by_cases h0 : k = 0
    · subst h0
      simp only [Nat.add_zero]
      rw [if_pos h]
      have : (l.drop i).take 1 = [l.getD i 0] := by
        rw [List.take_one, List.head?_drop]
        have : i < l.length := by omega
        simp [List.getD, this]
      rw [this]; simp
    · rw [if_neg (by omega), ih (by omega) (by omega) (by omega)]
      have : (l.drop i).take (k + 1) = (l.drop i).take k ++ [l.getD (i + k) 0] := by
        rw [List.take_succ_eq_append_getElem (by rw [List.length_drop]; omega)]
        have hlt : i + k < l.length := by omega
        simp [List.getD, hlt]
      rw [this]; simp
theorem fixR_len (l : List UInt8) (a : UInt8) (i : Nat) : (fixR l a i).length ≤ 2 * i := by
  induction i with
  | zero => simp [fixR]
  | succ i ih => rw [fixR]; split <;> simp <;> omega
theorem fixR_last (l : List UInt8) (a : UInt8) (i : Nat) : (fixR l a (i + 1)).getD ((fixR l a (i + 1)).length - 1) 0 = fixP l a (i + 1) := by
  rw [fixR]
  simp [fixP, List.getD]
end Go.Proofs.YtgjkioknnjbjfaaDoor.Bm
