/- What is read of a frame is written as one that is read the same; of no program. -/
import Derived.Test.YtgjkioknnjbjfaaDoorMgRepack
import Derived.Test.YtgjkioknnjbjfaaDoorSgFacts2
namespace Go.Proofs.YtgjkioknnjbjfaaDoor
open Go.ChangeShapes Go.WideShapes Go.ChangeAt Go.RowKit
namespace Bw
open Sm
def wB (dt : List UInt8) (s : Sig) (d : List UInt8) : List UInt8 := wrS s s.st.toNat s.sz.toNat d (rawD s dt)
theorem wB_len (dt : List UInt8) (s : Sig) (d : List UInt8) : (wB dt s d).length = d.length := wrK_length _ _ _ _
theorem rt_of {s : Sig} {n : Nat} (h : chkS s n = 0) : Rt s s.st.toNat s.sz.toNat n := by
  obtain ⟨st, sz, hR⟩ := right_of h
  rw [hR.hst, hR.hsz, Int.toNat_natCast, Int.toNat_natCast]
  exact hR
theorem wB_self {dt : List UInt8} {s : Sig} {n : Nat} {d : List UInt8} (h : chkS s n = 0) (hd : d.length = n) : rawD s (wB dt s d) = rawD s dt := by
  have hR := rt_of h
  have hsp := rawR_span hR dt
  unfold rawD wB
  exact raw_of_bits hR (fun i hi => wrS_at hR hd _ hi) hsp.1 hsp.2
theorem wB_other {dt : List UInt8} {s t : Sig} {n : Nat} {d : List UInt8} (h : chkS s n = 0) (h' : chkS t n = 0) (ho : ovS s t = false) (hd : d.length = n) : rawD s (wB dt t d) = rawD s d := by
  have hR := rt_of h
  have hR' := rt_of h'
  have ha := ovN_apart (show ovN s.bk s.st.toNat s.sz.toNat t.bk t.st.toNat t.sz.toNat = false from ho)
  have hu : uN s.bk s.st.toNat s.sz.toNat (wB dt t d) = uN s.bk s.st.toNat s.sz.toNat d := by
    unfold uN
    exact sumK_congr (fun i hi => wrS_other hR' hd _ (fun j hj e => ha j hj i hi e.symm))
  unfold rawD rawR
  rw [hu]
def foldW (dt : List UInt8) (L : List Sig) (d : List UInt8) : List UInt8 := L.foldl (fun d s => wB dt s d) d
theorem foldW_len (dt : List UInt8) : ∀ (L : List Sig) (d : List UInt8), (foldW dt L d).length = d.length
  | [], _ => rfl
  | s :: r, d => (foldW_len dt r (wB dt s d)).trans (wB_len dt s d)
theorem fold_other {dt : List UInt8} {s : Sig} {n : Nat} (h : chkS s n = 0) : ∀ (L : List Sig) (d : List UInt8), d.length = n → (∀ t ∈ L, chkS t n = 0 ∧ ovS s t = false) → rawD s (foldW dt L d) = rawD s d
  | [], _, _, _ => rfl
  | t :: r, d, hd, hL => by
    have h1 := hL t (by simp)
    have h2 := fold_other (dt := dt) h r (wB dt t d) (by rw [wB_len]; exact hd) (fun x hx => hL x (by simp [hx]))
    exact h2.trans (wB_other h h1.1 h1.2 hd)
theorem fold_self {dt : List UInt8} {s : Sig} {n : Nat} : ∀ (L : List Sig) (d : List UInt8), d.length = n → (∀ t ∈ L, chkS t n = 0) → L.Pairwise (fun a b => ovS a b = false) → s ∈ L → rawD s (foldW dt L d) = rawD s dt
  | [], _, _, _, _, hs => by cases hs
  | x :: r, d, hd, hL, hp, hs => by
    obtain ⟨h1, h2⟩ := List.pairwise_cons.1 hp
    by_cases hr : s ∈ r
    · exact fold_self r (wB dt x d) (by rw [wB_len]; exact hd) (fun t ht => hL t (by simp [ht])) h2 hr
    · have e : s = x := by
        rcases List.mem_cons.1 hs with h | h
        · exact h
        · exact absurd h hr
      subst e
      have hc := hL s (by simp)
      have := fold_other (dt := dt) hc r (wB dt s d) (by rw [wB_len]; exact hd) (fun t ht => ⟨hL t (by simp [ht]), h1 t ht⟩)
      exact this.trans (wB_self hc hd)
theorem goE_fold {put : PutF} {dt : List UInt8} : ∀ (L : List Sig) (d : List UInt8), (∀ s ∈ L, ∀ d, put s d = (0, wB dt s d)) → goE put L d = (0, foldW dt L d)
  | [], _, _ => rfl
  | s :: r, d, h => by
    have h1 := h s (by simp) d
    simp only [goE, h1, if_true]
    exact goE_fold r _ (fun x hx => h x (by simp [hx]))
theorem findR_mem {l : List Rd} (hn : NoTwo l) {r : Rd} (hr : r ∈ l) : findR l r.nm = some r := by
  obtain ⟨i, hi, rfl⟩ := List.getElem_of_mem hr
  cases hf : findR l (l[i]).nm with
  | none =>
    have := findR_none hf i hi
    unfold rdAt at this
    rw [getD_at hi] at this
    exact absurd rfl this
  | some r' =>
    obtain ⟨j, hj, e1, e2⟩ := findR_some hf
    unfold rdAt at e1
    rw [getD_at hj] at e1
    congr 1
    rw [← e1]
    by_cases e : j = i
    · subst e; rfl
    · exfalso
      rcases Nat.lt_or_ge j i with h | h
      · have := hn j i h hi
        unfold rdAt at this
        rw [getD_at hj, getD_at hi, e1] at this
        exact this e2
      · have := hn i j (by omega) hj
        unfold rdAt at this
        rw [getD_at hj, getD_at hi, e1] at this
        exact this e2.symm
theorem reads_mem {m : Msg} {dt : List UInt8} {i : Nat} (hi : i < m.sigs.length) (h : thB (choD m dt) (m.at i) = true) : rdD (m.at i) dt ∈ readsD m dt := by
  unfold readsD
  exact List.mem_map.2 ⟨m.at i, List.mem_filter.2 ⟨m.mem hi, h⟩, rfl⟩
/-- all that is told has room -/
def Room (l : List Rd) : Prop := ∀ r ∈ l, -1099511627776 ≤ r.num ∧ r.num ≤ 1099511627776
theorem put_facts {m : Msg} (hO : OkM m) {n : Nat} (hn : m.size = n) {dt : List UInt8} (hrm : Room (readsD m dt)) {i : Nat} (hi : i < m.sigs.length) (h : thB (choD m dt) (m.at i) = true) (d : List UInt8) :
    putW (readsD m dt) (m.at i) d = (0, wB dt (m.at i) d) ∧ putP (readsD m dt) (m.at i) d = (0, wB dt (m.at i) d) := by
  have hc := hO.sig hi
  rw [hn] at hc
  have hR := rt_of hc
  have hmem := reads_mem hi h
  have hf : findR (readsD m dt) (m.at i).nm = some (rdD (m.at i) dt) := findR_mem (reads_apart hO dt) hmem
  have hro := hrm _ hmem
  have hsp := rawR_span hR dt
  have hb := back_frac hR hsp.1 hsp.2 hro.1 hro.2
  have e1 : rwE (m.at i) (rdD (m.at i) dt).num (rdD (m.at i) dt).den = 0 := hb.1
  have e2 : wrD (m.at i) d (rdD (m.at i) dt).num (rdD (m.at i) dt).den = wB dt (m.at i) d := by
    unfold wrD wB
    have : rawV (m.at i) (rdD (m.at i) dt).num (rdD (m.at i) dt).den = rawD (m.at i) dt := hb.2
    rw [this]
  constructor
  · unfold putW; rw [hf]; simp only [e1, if_true, e2]
  · unfold putP; rw [hf]; simp only [e1, if_true, e2]
theorem ovS_commB (a b : Sig) : ovS a b = ovS b a := by
  have h : ∀ x y : Sig, ovS x y = true → ovS y x = true := by
    intro x y h
    unfold ovS ovN at h
    rw [List.any_eq_true] at h
    obtain ⟨j, hj, h⟩ := h
    rw [List.any_eq_true] at h
    obtain ⟨i, hi, h⟩ := h
    exact ovN_yes (List.mem_range.1 hj) (List.mem_range.1 hi) (by simpa using (beq_iff_eq.1 h).symm)
  cases h1 : ovS a b with
  | true => exact (h a b h1).symm
  | false =>
    cases h2 : ovS b a with
    | false => rfl
    | true => rw [h b a h2] at h1; cases h1
/-- what is there at a time lies apart -/
theorem there_apart {m : Msg} (hO : OkM m) {c : Int} {i j : Nat} (hi : i < m.sigs.length) (hj : j < m.sigs.length) (hne : i ≠ j) (h1 : thB c (m.at i) = true) (h2 : thB c (m.at j) = true) : ovS (m.at i) (m.at j) = false := by
  have key : ∀ a b : Nat, a < b → b < m.sigs.length → thB c (m.at a) = true → thB c (m.at b) = true → ovS (m.at a) (m.at b) = false := by
    intro a b hab hb ha' hb'
    rcases (bes_parts (hO.bes hb hab)).2 with h | h
    · exact h
    · exfalso
      unfold nevB at h
      simp only [Bool.and_eq_true, decide_eq_true_eq] at h
      unfold thB at ha' hb'
      simp only [Bool.or_eq_true, beq_iff_eq] at ha' hb'
      have h3 : ¬ (m.at a).ky = (m.at b).ky := by simpa using h.2.2
      omega
  rcases Nat.lt_or_ge i j with h | h
  · exact key i j h hj h1 h2
  · rw [ovS_commB]
    exact key j i (by omega) hi h2 h1
theorem OkM.choo {m : Msg} (h : OkM m) (hc : 0 ≤ m.ch) : (m.at m.ch.toNat).ky = -1 := by
  have h1 := h.well
  unfold wellB at h1
  rw [Bool.and_eq_true, Bool.or_eq_true] at h1
  have h2 : chooB (m.at m.ch.toNat) = true := by
    rcases h1.1 with h3 | h3
    · simp at h3; omega
    · exact h3
  unfold chooB at h2
  simp only [Bool.and_eq_true, decide_eq_true_eq] at h2
  have h4 := h.ch1
  obtain ⟨_, _, h5, _⟩ := chk_size (h.sig (i := m.ch.toNat) (by omega))
  unfold numB at h5
  simp only [Bool.and_eq_true] at h5
  have h6 := (inB_iff.1 h5.2.2.2.2.2).1
  omega
theorem cnt_out {P : Nat → Bool} {c0 : Nat} (h : P c0 = true) : ∀ N, ((List.range N).filter P).length = ((List.range N).filter (fun i => !(i == c0) && P i)).length + (if c0 < N then 1 else 0)
  | 0 => rfl
  | N + 1 => by
    have ih := cnt_out h N
    rw [List.range_succ, List.filter_append, List.filter_append, List.length_append, List.length_append, ih]
    by_cases e : N = c0
    · subst e
      simp [h]
    · by_cases hl : c0 < N
      · rw [if_pos hl, if_pos (by omega)]
        cases hp : P N <;> simp [hp, e]
      · rw [if_neg hl, if_neg (by omega)]
        cases hp : P N <;> simp [hp, e]
theorem sigs_range (m : Msg) : m.sigs = (List.range m.sigs.length).map m.at := by
  apply List.ext_getElem
  · simp
  · intro i h1 h2
    simp only [List.getElem_map, List.getElem_range]
    unfold Msg.at
    rw [getD_at h1]
theorem oth_mem {m : Msg} {c : Int} {N : Nat} {s : Sig} (h : s ∈ othK m c N) : ∃ i, i < N ∧ (i : Int) ≠ m.ch ∧ thB c (m.at i) = true ∧ s = m.at i := by
  unfold othK at h
  obtain ⟨i, hi, rfl⟩ := List.mem_map.1 h
  obtain ⟨h1, h2⟩ := List.mem_filter.1 hi
  unfold othB at h2
  rw [Bool.and_eq_true] at h2
  exact ⟨i, List.mem_range.1 h1, by simpa using h2.1, h2.2, rfl⟩
theorem mem_oth {m : Msg} {c : Int} {N i : Nat} (hi : i < N) (hne : (i : Int) ≠ m.ch) (ht : thB c (m.at i) = true) : m.at i ∈ othK m c N := by
  unfold othK
  refine List.mem_map.2 ⟨i, List.mem_filter.2 ⟨List.mem_range.2 hi, ?_⟩, rfl⟩
  unfold othB
  rw [Bool.and_eq_true]
  exact ⟨by simpa using hne, ht⟩
theorem oth_apart {m : Msg} (hO : OkM m) (c : Int) : (othK m c m.sigs.length).Pairwise (fun a b => ovS a b = false) := by
  unfold othK
  rw [List.pairwise_map]
  refine List.Pairwise.imp_of_mem ?_ (List.pairwise_lt_range.filter (othB m c))
  intro a b ha hb hab
  obtain ⟨h1, h2⟩ := List.mem_filter.1 ha
  obtain ⟨h3, h4⟩ := List.mem_filter.1 hb
  unfold othB at h2 h4
  rw [Bool.and_eq_true] at h2 h4
  exact there_apart hO (List.mem_range.1 h1) (List.mem_range.1 h3) (by omega) h2.2 h4.2
/-- the bytes ahead of the others -/
def firstB (m : Msg) (dt : List UInt8) : List UInt8 := if 0 ≤ m.ch then wB dt (m.at m.ch.toNat) (zerosM m) else zerosM m
def backD (m : Msg) (dt : List UInt8) : List UInt8 := foldW dt (othK m (choD m dt) m.sigs.length) (firstB m dt)
theorem cho_there {m : Msg} (hO : OkM m) (dt : List UInt8) (hc : 0 ≤ m.ch) : thB (choD m dt) (m.at m.ch.toNat) = true := by
  unfold thB
  rw [hO.choo hc]
  rfl
theorem firstB_len {m : Msg} {n : Nat} (hn : m.size = n) (dt : List UInt8) : (firstB m dt).length = n := by
  have hz : (zerosM m).length = n := by unfold zerosM; rw [List.length_replicate, hn]; rfl
  unfold firstB
  split
  · rw [wB_len]; exact hz
  · exact hz
theorem cho_first {m : Msg} (hO : OkM m) {n : Nat} (hn : m.size = n) (dt : List UInt8) : choD m (firstB m dt) = choD m dt := by
  by_cases hc : 0 ≤ m.ch
  · have h1 := hO.ch1
    have hs := hO.sig (i := m.ch.toNat) (by omega)
    rw [hn] at hs
    have hz : (zerosM m).length = n := by unfold zerosM; rw [List.length_replicate, hn]; rfl
    unfold choD firstB
    rw [if_pos hc, if_pos hc, if_pos hc]
    exact wB_self hs hz
  · unfold choD
    rw [if_neg hc, if_neg hc]
theorem fill_back {m : Msg} (hO : OkM m) {n : Nat} (hn : m.size = n) {dt : List UInt8} (hrm : Room (readsD m dt)) :
    fillE (putW (readsD m dt)) m = (0, backD m dt) ∧ fillE (putP (readsD m dt)) m = (0, backD m dt) ∧ (chooE (putW (readsD m dt)) m).2 = firstB m dt := by
  have h1 := hO.ch1
  have hcW : chooE (putW (readsD m dt)) m = (0, firstB m dt) := by
    unfold chooE firstB
    by_cases hc : 0 ≤ m.ch
    · rw [if_pos hc, if_pos hc]
      exact (put_facts hO hn hrm (by omega) (cho_there hO dt hc) _).1
    · rw [if_neg hc, if_neg hc]
  have hcP : chooE (putP (readsD m dt)) m = (0, firstB m dt) := by
    unfold chooE firstB
    by_cases hc : 0 ≤ m.ch
    · rw [if_pos hc, if_pos hc]
      exact (put_facts hO hn hrm (by omega) (cho_there hO dt hc) _).2
    · rw [if_neg hc, if_neg hc]
  refine ⟨?_, ?_, by rw [hcW]⟩
  · unfold fillE
    rw [hcW]
    simp only [if_true]
    rw [cho_first hO hn]
    exact goE_fold _ _ (fun s hs d => by
      obtain ⟨i, hi, _, ht, rfl⟩ := oth_mem hs
      exact (put_facts hO hn hrm hi ht d).1)
  · unfold fillE
    rw [hcP]
    simp only [if_true]
    rw [cho_first hO hn]
    exact goE_fold _ _ (fun s hs d => by
      obtain ⟨i, hi, _, ht, rfl⟩ := oth_mem hs
      exact (put_facts hO hn hrm hi ht d).2)
theorem raw_back {m : Msg} (hO : OkM m) {n : Nat} (hn : m.size = n) (dt : List UInt8) {i : Nat} (hi : i < m.sigs.length) (ht : thB (choD m dt) (m.at i) = true) : rawD (m.at i) (backD m dt) = rawD (m.at i) dt := by
  have hchk : ∀ t ∈ othK m (choD m dt) m.sigs.length, chkS t n = 0 := fun t h => by
    obtain ⟨j, hj, _, _, rfl⟩ := oth_mem h
    rw [← hn]
    exact hO.sig hj
  have hs := hO.sig hi
  rw [hn] at hs
  by_cases hc : (i : Int) = m.ch
  · have hci : m.ch.toNat = i := by omega
    have h0 : 0 ≤ m.ch := by omega
    have hz : (zerosM m).length = n := by unfold zerosM; rw [List.length_replicate, hn]; rfl
    have h1 := fold_other (dt := dt) hs (othK m (choD m dt) m.sigs.length) (firstB m dt) (firstB_len hn dt) (fun t h => by
      refine ⟨hchk t h, ?_⟩
      obtain ⟨j, hj, hne, htj, rfl⟩ := oth_mem h
      exact there_apart hO hi hj (fun e => hne (by rw [← e]; exact hc)) ht htj)
    refine h1.trans ?_
    unfold firstB
    rw [if_pos h0, hci]
    exact wB_self hs hz
  · exact fold_self _ _ (firstB_len hn dt) hchk (oth_apart hO _) (mem_oth hi hc ht)
theorem cho_back {m : Msg} (hO : OkM m) {n : Nat} (hn : m.size = n) (dt : List UInt8) : choD m (backD m dt) = choD m dt := by
  by_cases hc : 0 ≤ m.ch
  · have h1 := hO.ch1
    have := raw_back hO hn dt (i := m.ch.toNat) (by omega) (cho_there hO dt hc)
    unfold choD at this ⊢
    rw [if_pos hc, if_pos hc]
    exact this
  · unfold choD
    rw [if_neg hc, if_neg hc]
theorem reads_back {m : Msg} (hO : OkM m) {n : Nat} (hn : m.size = n) (dt : List UInt8) : readsD m (backD m dt) = readsD m dt := by
  unfold readsD
  rw [cho_back hO hn]
  apply List.map_congr_left
  intro s hs
  obtain ⟨h1, h2⟩ := List.mem_filter.1 hs
  obtain ⟨i, hi, rfl⟩ := List.getElem_of_mem h1
  have e : m.sigs[i] = m.at i := by unfold Msg.at; rw [getD_at hi]
  rw [e] at h2 ⊢
  unfold rdD
  rw [raw_back hO hn dt hi h2]
theorem used_back {m : Msg} (hO : OkM m) {n : Nat} (hn : m.size = n) {dt : List UInt8} (hrm : Room (readsD m dt)) : (usedL (putW (readsD m dt)) m).length = (readsD m dt).length := by
  have h1 := hO.ch1
  have hl : (readsD m dt).length = ((List.range m.sigs.length).filter (fun i => thB (choD m dt) (m.at i))).length := by
    unfold readsD
    rw [List.length_map]
    conv => lhs; rw [sigs_range m]
    rw [List.filter_map, List.length_map]
    rfl
  unfold usedL
  rw [(fill_back hO hn hrm).2.2, cho_first hO hn, hl, List.length_append, List.length_map]
  unfold othK
  rw [List.length_map]
  by_cases hc : 0 ≤ m.ch
  · rw [if_pos hc]
    have h2 := cnt_out (P := fun i => thB (choD m dt) (m.at i)) (c0 := m.ch.toNat) (cho_there hO dt hc) m.sigs.length
    rw [if_pos (by omega)] at h2
    rw [h2]
    have e : (List.range m.sigs.length).filter (othB m (choD m dt)) = (List.range m.sigs.length).filter (fun i => !(i == m.ch.toNat) && thB (choD m dt) (m.at i)) := by
      apply List.filter_congr
      intro i _
      unfold othB
      have hb : ((i : Int) == m.ch) = (i == m.ch.toNat) := by
        rw [Bool.eq_iff_iff, beq_iff_eq, beq_iff_eq]
        omega
      rw [hb]
    rw [e]
    simp
    omega
  · rw [if_neg hc]
    have e : (List.range m.sigs.length).filter (othB m (choD m dt)) = (List.range m.sigs.length).filter (fun i => thB (choD m dt) (m.at i)) := by
      apply List.filter_congr
      intro i _
      unfold othB
      have : ¬ (i : Int) = m.ch := by omega
      simp [this]
    rw [e]
    simp
theorem write_back {m : Msg} (hO : OkM m) (hC : chkM m = 0) {n : Nat} (hn : m.size = n) {dt : List UInt8} (hrm : Room (readsD m dt)) : writeE m (readsD m dt) = 0 := by
  unfold writeE
  rw [if_neg (by rw [hC]; simp), if_neg (by rw [dupE_zero.2 (reads_apart hO dt)]; simp), (fill_back hO hn hrm).1, if_neg (by simp), if_neg (by rw [used_back hO hn hrm]; omega)]
theorem read_back2 {m : Msg} (hO : OkM m) (hC : chkM m = 0) {n : Nat} (hn : m.size = n) : readE m m.id m.lo false false 0 n = 0 := by
  have hf : frEn m.id m.lo false false 0 n = 0 := by
    have h1 := hO.fr
    have h8 := hO.size8
    unfold frEn at h1 ⊢
    split at h1
    · omega
    rename_i h2
    rw [if_neg h2, if_neg (by simp), if_neg (by simp), if_neg (by omega), if_pos]
    have h9 : n ≤ 8 := by omega
    have hall : ∀ k, k ≤ 8 → k ∈ sizesL := by decide
    exact hall n h9
  unfold readE
  rw [if_neg (by rw [hC]; simp), if_neg (by rw [hf]; simp), if_neg (by simp), if_neg (by omega)]
end Bw
end Go.Proofs.YtgjkioknnjbjfaaDoor
