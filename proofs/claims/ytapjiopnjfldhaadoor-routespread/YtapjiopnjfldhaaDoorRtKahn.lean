/- Taking away, one by one, what nothing leads to: plain facts on lists of numbers; of no program. -/
import Derived.WalkKit
namespace Go.Proofs.YtapjiopnjfldhaaDoor
namespace Kn
/-- a sum over numbers below n -/
def sm (f : Nat → Nat) : Nat → Nat
  | 0 => 0
  | n + 1 => sm f n + f n
theorem sm_le {f : Nat → Nat} {m : Nat} (h : ∀ i, f i ≤ m) (n : Nat) : sm f n ≤ m * n := by
  induction n with
  | zero => exact Nat.zero_le _
  | succ n ih => unfold sm; have := h n; rw [Nat.mul_succ]; omega
theorem sm_one (n : Nat) : sm (fun _ => 1) n = n := by
  induction n with
  | zero => rfl
  | succ n ih => unfold sm; rw [ih]
theorem sum_erase (f : Nat → Nat) {a : Nat} {F : List Nat} (h : a ∈ F) : (F.map f).sum = f a + ((F.erase a).map f).sum := by
  have hp := (List.perm_cons_erase h).map f
  have := hp.sum_nat
  simpa using this
/-- of different numbers below n the sum is at most that of all -/
theorem sum_le (f : Nat → Nat) : ∀ (n : Nat) (F : List Nat), F.Nodup → (∀ x ∈ F, x < n) → (F.map f).sum ≤ sm f n := by
  intro n
  induction n with
  | zero =>
    intro F _ h
    cases F with
    | nil => simp [sm]
    | cons a F => exact absurd (h a (by simp)) (by omega)
  | succ n ih =>
    intro F hF h
    unfold sm
    by_cases hn : n ∈ F
    · rw [sum_erase f hn]
      have := ih (F.erase n) (hF.erase n) (fun x hx => by
        rw [hF.mem_erase_iff] at hx
        have := h x hx.2
        have := hx.1
        omega)
      omega
    · have := ih F hF (fun x hx => by
        have h1 := h x hx
        have h2 : x ≠ n := fun e => hn (e ▸ hx)
        omega)
      omega
/-- of numbers among which are all that count the sum is at least that of all -/
theorem sum_ge (f : Nat → Nat) : ∀ (n : Nat) (F : List Nat), (∀ j, j < n → 0 < f j → j ∈ F) → sm f n ≤ (F.map f).sum := by
  intro n
  induction n with
  | zero => intro F _; exact Nat.zero_le _
  | succ n ih =>
    intro F h
    unfold sm
    by_cases h0 : f n = 0
    · rw [h0]
      exact ih F (fun j hj => h j (by omega))
    · have hn : n ∈ F := h n (by omega) (by omega)
      rw [sum_erase f hn]
      have := ih (F.erase n) (fun j hj hf => (List.mem_erase_of_ne (by omega)).2 (h j (by omega) hf))
      omega
theorem ones_len (F : List Nat) : (F.map (fun _ => 1)).sum = F.length := by
  induction F with
  | nil => rfl
  | cons a F ih => rw [List.map_cons, List.sum_cons, ih, List.length_cons, Nat.add_comm]
theorem nodup_len {n : Nat} {F : List Nat} (hF : F.Nodup) (h : ∀ x ∈ F, x < n) : F.length ≤ n := by
  have := sum_le (fun _ => 1) n F hF h
  rw [sm_one, ones_len] at this
  exact this
theorem all_len {n : Nat} {F : List Nat} (h : ∀ j, j < n → j ∈ F) : n ≤ F.length := by
  have := sum_ge (fun _ => 1) n F (fun j hj _ => h j hj)
  rw [sm_one, ones_len] at this
  exact this
theorem full_all {n : Nat} {F : List Nat} (hF : F.Nodup) (h : ∀ x ∈ F, x < n) (hn : n ≤ F.length) : ∀ j, j < n → j ∈ F := by
  intro j hj
  refine Classical.byContradiction fun hc => ?_
  have := nodup_len (n := n) (F := j :: F) (List.nodup_cons.2 ⟨hc, hF⟩) (by
    intro x hx
    rcases List.mem_cons.1 hx with rfl | hx
    · exact hj
    · exact h x hx)
  simp at this
  omega
abbrev Lt := List (List Int)
/-- how often a row leads to i; how often all do; how often these do -/
def leads (L : Lt) (i j : Nat) : Nat := (L.getD j []).count (i : Int)
def inTo (L : Lt) (i : Nat) : Nat := sm (leads L i) L.length
def outOf (L : Lt) (F : List Nat) (i : Nat) : Nat := (F.map (leads L i)).sum
/-- rows of numbers that name rows, each of them but the first led to -/
structure Rows (L : Lt) : Prop where
  pos : 0 < L.length
  max : L.length ≤ 100000
  wide : ∀ j, (L.getD j []).length ≤ 20
  ok : ∀ j, ∀ x ∈ L.getD j [], 0 ≤ x ∧ x < (L.length : Int)
  led : ∀ i, 0 < i → i < L.length → ∃ j, j < L.length ∧ (i : Int) ∈ L.getD j []
theorem getD_memI {l : List Int} {q : Nat} (hq : q < l.length) : l.getD q 0 ∈ l := by
  simp [List.getD, hq]
theorem Rows.at {L : Lt} (h : Rows L) {k q : Nat} (hk : k < L.length) (hq : q < (L.getD k []).length) : ∃ j : Nat, (L.getD k []).getD q 0 = (j : Int) ∧ j < L.length := by
  have h1 := h.ok k _ (getD_memI hq)
  exact ⟨((L.getD k []).getD q 0).toNat, by omega, by omega⟩
theorem leads_le {L : Lt} (h : Rows L) (i j : Nat) : leads L i j ≤ 20 := Nat.le_trans (List.count_le_length) (h.wide j)
theorem inTo_le {L : Lt} (h : Rows L) (i : Nat) : inTo L i ≤ 2000000 := by
  have h1 := sm_le (leads_le h i) L.length
  have h2 := h.max
  unfold inTo
  omega
theorem part_le {L : Lt} (h : Rows L) (i k q : Nat) (hk : k < L.length) : sm (leads L i) k + ((L.getD k []).take q).count (i : Int) ≤ 2000000 := by
  have h1 := sm_le (leads_le h i) k
  have h2 := h.max
  have h3 : ((L.getD k []).take q).count (i : Int) ≤ (L.getD k []).count (i : Int) := (List.take_sublist q _).count_le _
  have h4 : (L.getD k []).count (i : Int) ≤ 20 := leads_le h i k
  omega
/-- counting: behind k rows and q numbers of the next one -/
structure Cnt (L : Lt) (k q : Nat) (A : List Int) : Prop where
  len : A.length = L.length
  val : ∀ i, i < L.length → A.getD i 0 = ((sm (leads L i) k + ((L.getD k []).take q).count (i : Int) : Nat) : Int)
theorem Cnt.start (L : Lt) : Cnt L 0 0 (List.replicate L.length 0) := ⟨by simp, fun i hi => by simp [List.getD, hi, sm]⟩
theorem take_add {l : List Int} {q : Nat} (hq : q < l.length) : l.take (q + 1) = l.take q ++ [l.getD q 0] := by
  rw [List.take_succ_eq_append_getElem hq]
  simp [List.getD, hq]
theorem count_add {l : List Int} {q : Nat} (hq : q < l.length) (x : Int) : (l.take (q + 1)).count x = (l.take q).count x + (if l.getD q 0 = x then 1 else 0) := by
  rw [take_add hq, List.count_append]
  congr 1
  simp [List.count_singleton]
theorem getD_set (A : List Int) (i j : Nat) (v : Int) (hi : i < A.length) : (A.set i v).getD j 0 = if i = j then v else A.getD j 0 := by
  by_cases e : i = j
  · subst e; simp [List.getD, hi]
  · simp [List.getD, e]
theorem Cnt.step {L : Lt} {k q : Nat} {A : List Int} (h : Cnt L k q A) (hq : q < (L.getD k []).length) {m : Nat} (hm : (L.getD k []).getD q 0 = (m : Int)) (hml : m < L.length) : Cnt L k (q + 1) (A.set m (A.getD m 0 + 1)) := by
  refine ⟨by rw [List.length_set]; exact h.len, fun i hi => ?_⟩
  rw [getD_set _ _ _ _ (by rw [h.len]; exact hml), count_add hq, hm]
  by_cases e : m = i
  · subst e
    rw [if_pos rfl, if_pos rfl, h.val m hml]
    omega
  · rw [if_neg e, if_neg (by omega), h.val i hi]
    rfl
theorem Cnt.row {L : Lt} {k : Nat} {A : List Int} (h : Cnt L k (L.getD k []).length A) : Cnt L (k + 1) 0 A := by
  refine ⟨h.len, fun i hi => ?_⟩
  rw [h.val i hi, List.take_of_length_le (Nat.le_refl _)]
  show ((sm (leads L i) k + leads L i k : Nat) : Int) = ((sm (leads L i) (k + 1) + _ : Nat) : Int)
  simp [sm]
/-- taking away: behind k of those that are free and q numbers of the next one's row -/
structure Fre (L : Lt) (k q : Nat) (F : List Nat) (A : List Int) : Prop where
  len : A.length = L.length
  nodup : F.Nodup
  ok : ∀ f ∈ F, f < L.length
  k_le : k ≤ F.length
  head : ∃ F', F = 0 :: F'
  nul : inTo L 0 = 0
  val : ∀ i, i < L.length → A.getD i 0 = (inTo L i : Int) - (outOf L (F.take k) i : Int) - (((L.getD (F.getD k 0) []).take q).count (i : Int) : Int)
  mem : ∀ i, i < L.length → (i ∈ F ↔ (i = 0 ∨ (0 < inTo L i ∧ A.getD i 0 = 0)))
  ord : ∀ m, m < F.length → ∀ j, j < L.length → ((F.getD m 0 : Nat) : Int) ∈ L.getD j [] → ∃ m', m' < m ∧ F.getD m' 0 = j
theorem Fre.start {L : Lt} (hR : Rows L) {A : List Int} (h : Cnt L L.length 0 A) (h0 : ¬ 0 < A.getD 0 0) : Fre L 0 0 [0] A := by
  have hv : ∀ i, i < L.length → A.getD i 0 = (inTo L i : Int) := fun i hi => by rw [h.val i hi]; simp [inTo]
  have hn : inTo L 0 = 0 := by have := hv 0 hR.pos; omega
  refine ⟨h.len, by simp, fun f hf => by simp at hf; rw [hf]; exact hR.pos, Nat.zero_le _, ⟨[], rfl⟩, hn, fun i hi => by rw [hv i hi]; simp [outOf], fun i hi => ?_, fun m hm j hj hx => ?_⟩
  · rw [List.mem_singleton, hv i hi]
    constructor
    · exact .inl
    · rintro (h1 | ⟨h1, h2⟩)
      · exact h1
      · omega
  · exfalso
    have hm0 : m = 0 := by simp at hm; exact hm
    subst hm0
    have h1 : leads L 0 j ≤ inTo L 0 := by
      have := sum_le (leads L 0) L.length [j] (by simp) (by simp [hj])
      simpa [inTo] using this
    have h2 : 0 < leads L 0 j := List.count_pos_iff.2 hx
    omega
theorem out_add (L : Lt) (F : List Nat) {k : Nat} (hk : k < F.length) (i : Nat) : outOf L (F.take (k + 1)) i = outOf L (F.take k) i + leads L i (F.getD k 0) := by
  unfold outOf
  rw [List.take_succ_eq_append_getElem hk, List.map_append, List.sum_append]
  simp [List.getD, hk]
theorem out_le {L : Lt} {F : List Nat} (hF : F.Nodup) (h : ∀ x ∈ F, x < L.length) (i : Nat) : outOf L F i ≤ inTo L i := sum_le (leads L i) L.length F hF h
theorem Fre.take_ok {L : Lt} {k q : Nat} {F : List Nat} {A : List Int} (h : Fre L k q F A) (m : Nat) : (F.take m).Nodup ∧ ∀ x ∈ F.take m, x < L.length :=
  ⟨h.nodup.sublist (List.take_sublist _ _), fun x hx => h.ok x (List.mem_of_mem_take hx)⟩
/-- what a number of a row has left, ahead of it -/
theorem Fre.pos {L : Lt} {k q : Nat} {F : List Nat} {A : List Int} (h : Fre L k q F A) (hk : k < F.length) (hq : q < (L.getD (F.getD k 0) []).length) {m : Nat} (hm : (L.getD (F.getD k 0) []).getD q 0 = (m : Int)) (hml : m < L.length) : 0 < A.getD m 0 := by
  rw [h.val m hml]
  have h1 := out_le (h.take_ok (k + 1)).1 (h.take_ok (k + 1)).2 m
  rw [out_add L F hk] at h1
  have h2 : ((L.getD (F.getD k 0) []).take (q + 1)).count (m : Int) ≤ leads L m (F.getD k 0) := (List.take_sublist _ _).count_le _
  rw [count_add hq, hm, if_pos rfl] at h2
  omega
theorem Fre.le {L : Lt} (hR : Rows L) {k q : Nat} {F : List Nat} {A : List Int} (h : Fre L k q F A) {m : Nat} (hml : m < L.length) : A.getD m 0 ≤ 2000000 := by
  rw [h.val m hml]
  have := inTo_le hR m
  omega
theorem Fre.flen {L : Lt} {k q : Nat} {F : List Nat} {A : List Int} (h : Fre L k q F A) : F.length ≤ L.length := nodup_len h.nodup h.ok
/-- one number taken -/
theorem Fre.step {L : Lt} {k q : Nat} {F : List Nat} {A : List Int} (h : Fre L k q F A) (hk : k < F.length) (hq : q < (L.getD (F.getD k 0) []).length) {m : Nat} (hm : (L.getD (F.getD k 0) []).getD q 0 = (m : Int)) (hml : m < L.length) :
    (A.getD m 0 - 1 ≠ 0 → Fre L k (q + 1) F (A.set m (A.getD m 0 - 1))) ∧ (A.getD m 0 - 1 = 0 → Fre L k (q + 1) (F ++ [m]) (A.set m (A.getD m 0 - 1)) ∧ (F ++ [m]).getD k 0 = F.getD k 0) := by
  have hp := h.pos hk hq hm hml
  have hin : 0 < inTo L m := by have := h.val m hml; omega
  have hm0 : m ≠ 0 := fun e => by rw [e, h.nul] at hin; omega
  have hmF : m ∉ F := fun hx => by
    rcases (h.mem m hml).1 hx with h1 | ⟨-, h1⟩
    · exact hm0 h1
    · omega
  have hg : (F ++ [m]).getD k 0 = F.getD k 0 := by simp [List.getD, List.getElem?_append_left hk]
  have htk : (F ++ [m]).take k = F.take k := List.take_append_of_le_length (by omega)
  have hval : ∀ i, i < L.length → (A.set m (A.getD m 0 - 1)).getD i 0 = (inTo L i : Int) - (outOf L (F.take k) i : Int) - (((L.getD (F.getD k 0) []).take (q + 1)).count (i : Int) : Int) := by
    intro i hi
    rw [getD_set _ _ _ _ (by rw [h.len]; exact hml), count_add hq, hm]
    by_cases e : m = i
    · subst e
      rw [if_pos rfl, if_pos rfl, h.val m hml]
      omega
    · rw [if_neg e, if_neg (by omega), h.val i hi]
      rfl
  refine ⟨fun hne => ⟨by rw [List.length_set]; exact h.len, h.nodup, h.ok, h.k_le, h.head, h.nul, hval, fun i hi => ?_, h.ord⟩, fun h0 => ⟨⟨by rw [List.length_set]; exact h.len, ?_, ?_, ?_, ?_, h.nul, ?_, ?_, ?_⟩, hg⟩⟩
  · rw [getD_set _ _ _ _ (by rw [h.len]; exact hml)]
    by_cases e : m = i
    · subst e
      rw [if_pos rfl]
      constructor
      · intro hx; exact absurd hx hmF
      · rintro (h1 | ⟨-, h1⟩)
        · exact absurd h1 hm0
        · exact absurd h1 hne
    · rw [if_neg e]; exact h.mem i hi
  · rw [List.nodup_append]
    exact ⟨h.nodup, by simp, fun a ha b hb e => by rw [List.mem_singleton] at hb; subst hb; subst e; exact hmF ha⟩
  · intro f hf
    rcases List.mem_append.1 hf with hf | hf
    · exact h.ok f hf
    · rw [List.mem_singleton] at hf; subst hf; exact hml
  · rw [List.length_append]; have := h.k_le; omega
  · obtain ⟨F', rfl⟩ := h.head
    exact ⟨F' ++ [m], rfl⟩
  · intro i hi
    rw [htk, hg]
    exact hval i hi
  · intro i hi
    rw [getD_set _ _ _ _ (by rw [h.len]; exact hml), List.mem_append, List.mem_singleton]
    by_cases e : m = i
    · subst e
      rw [if_pos rfl]
      exact ⟨fun _ => .inr ⟨hin, h0⟩, fun _ => .inr rfl⟩
    · rw [if_neg e, ← h.mem i hi]
      constructor
      · rintro (h1 | h1)
        · exact h1
        · exact absurd h1.symm e
      · exact .inl
  · intro p hp' j hj hx
    by_cases hpl : p < F.length
    · have e1 : (F ++ [m]).getD p 0 = F.getD p 0 := by simp [List.getD, List.getElem?_append_left hpl]
      rw [e1] at hx
      obtain ⟨m', h1, h2⟩ := h.ord p hpl j hj hx
      exact ⟨m', h1, by rw [← h2]; simp [List.getD, List.getElem?_append_left (show m' < F.length by omega)]⟩
    · have e1 : p = F.length := by simp at hp'; omega
      subst e1
      have e2 : (F ++ [m]).getD F.length 0 = m := by simp [List.getD]
      rw [e2] at hx
      have hpos : 0 < leads L m j := List.count_pos_iff.2 hx
      have hjF : j ∈ F.take (k + 1) := by
        refine Classical.byContradiction fun hc => ?_
        have hs := sum_le (leads L m) L.length (j :: F.take (k + 1)) (List.nodup_cons.2 ⟨hc, (h.take_ok (k + 1)).1⟩) (by
          intro x hx
          rcases List.mem_cons.1 hx with rfl | hx
          · exact hj
          · exact (h.take_ok (k + 1)).2 x hx)
        have hs2 : leads L m j + outOf L (F.take (k + 1)) m ≤ inTo L m := by simpa [outOf, inTo] using hs
        rw [out_add L F hk] at hs2
        have h3 := hval m hml
        rw [getD_set _ _ _ _ (by rw [h.len]; exact hml), if_pos rfl] at h3
        have h4 : ((L.getD (F.getD k 0) []).take (q + 1)).count (m : Int) ≤ leads L m (F.getD k 0) := (List.take_sublist _ _).count_le _
        omega
      obtain ⟨m', h1, h2⟩ := List.getElem_of_mem hjF
      have h1' : m' < k + 1 ∧ m' < F.length := by rw [List.length_take] at h1; omega
      refine ⟨m', by omega, ?_⟩
      rw [← h2]
      simp [List.getD, List.getElem?_append_left h1'.2, h1'.2]
theorem Fre.row {L : Lt} {k : Nat} {F : List Nat} {A : List Int} (h : Fre L k (L.getD (F.getD k 0) []).length F A) (hk : k < F.length) : Fre L (k + 1) 0 F A := by
  refine { h with k_le := hk, val := fun i hi => ?_ }
  rw [h.val i hi, List.take_of_length_le (Nat.le_refl _), out_add L F hk]
  show _ - _ - ((leads L i (F.getD k 0) : Nat) : Int) = _
  simp
  omega
/-- is there a round? -/
structure Round (L : Lt) (b : Bool) : Prop where
  yes : b = true → ∃ R : Nat → Prop, (∃ i, i < L.length ∧ R i) ∧ ∀ i, R i → i < L.length ∧ ∃ j, j < L.length ∧ R j ∧ (i : Int) ∈ L.getD j []
  no : b = false → ∃ F : List Nat, F.Nodup ∧ (∀ i, i < L.length → i ∈ F) ∧ ∀ m, m < F.length → ∀ j, j < L.length → ((F.getD m 0 : Nat) : Int) ∈ L.getD j [] → ∃ m', m' < m ∧ F.getD m' 0 = j
theorem round_first {L : Lt} (hR : Rows L) {A : List Int} (h : Cnt L L.length 0 A) (h0 : 0 < A.getD 0 0) : Round L true := by
  refine ⟨fun _ => ⟨fun i => i < L.length, ⟨0, hR.pos, hR.pos⟩, fun i hi => ⟨hi, ?_⟩⟩, fun e => by cases e⟩
  by_cases e : i = 0
  · subst e
    refine Classical.byContradiction fun hc => ?_
    have h1 : sm (leads L 0) L.length ≤ 0 := by
      have := sum_ge (leads L 0) L.length [] (fun j hj hp => absurd ⟨j, hj, hj, List.count_pos_iff.1 hp⟩ hc)
      simpa using this
    have h2 := h.val 0 hR.pos
    rw [List.take_zero, List.count_nil] at h2
    omega
  · obtain ⟨j, hj, hx⟩ := hR.led i (by omega) hi
    exact ⟨j, hj, hj, hx⟩
theorem round_end {L : Lt} (hR : Rows L) {F : List Nat} {A : List Int} (h : Fre L F.length 0 F A) : Round L (decide (F.length < L.length)) := by
  refine ⟨fun hb => ?_, fun hb => ?_⟩
  · have hlt := of_decide_eq_true hb
    have hv : ∀ i, i < L.length → A.getD i 0 = (inTo L i : Int) - (outOf L F i : Int) := fun i hi => by rw [h.val i hi, List.take_of_length_le (Nat.le_refl _)]; simp
    refine ⟨fun i => i < L.length ∧ i ∉ F, ?_, fun i hi => ⟨hi.1, ?_⟩⟩
    · refine Classical.byContradiction fun hc => ?_
      have := all_len (n := L.length) (F := F) (fun j hj => Classical.byContradiction fun hx => hc ⟨j, hj, hj, hx⟩)
      omega
    · have hm := h.mem i hi.1
      have hi0 : i ≠ 0 := fun e => hi.2 (hm.2 (.inl e))
      obtain ⟨j, hj, hx⟩ := hR.led i (by omega) hi.1
      have hin : 0 < inTo L i := by
        have h1 : leads L i j ≤ inTo L i := by
          have := sum_le (leads L i) L.length [j] (by simp) (by simp [hj])
          simpa [inTo] using this
        have h2 : 0 < leads L i j := List.count_pos_iff.2 hx
        omega
      have hA : A.getD i 0 ≠ 0 := fun e => hi.2 (hm.2 (.inr ⟨hin, e⟩))
      refine Classical.byContradiction fun hc => ?_
      have h1 : sm (leads L i) L.length ≤ (F.map (leads L i)).sum := sum_ge (leads L i) L.length F (fun p hp hpos => Classical.byContradiction fun hx => hc ⟨p, hp, ⟨hp, hx⟩, List.count_pos_iff.1 hpos⟩)
      have h2 := out_le h.nodup h.ok i
      have h3 := hv i hi.1
      unfold inTo outOf at *
      omega
  · have hle : L.length ≤ F.length := by
      have := of_decide_eq_false hb
      omega
    exact ⟨F, h.nodup, full_all h.nodup h.ok hle, h.ord⟩
end Kn
end Go.Proofs.YtapjiopnjfldhaaDoor
