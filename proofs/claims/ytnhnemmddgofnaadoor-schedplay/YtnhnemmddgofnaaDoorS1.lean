/- No message of a play waits longer than chapter 15's reckoning tells: plain facts; of no program. -/
import Derived.WalkKit
import Derived.Test.YtnhnemmddgofnaaDoorD1
namespace Go.Proofs.YtnhnemmddgofnaaDoor
namespace Sb
/-- a sum over numbers below n -/
def sm (f : Nat → Nat) : Nat → Nat
  | 0 => 0
  | n + 1 => sm f n + f n
theorem sm_le {f g : Nat → Nat} : ∀ n, (∀ i, i < n → f i ≤ g i) → sm f n ≤ sm g n
  | 0, _ => Nat.le_refl _
  | n + 1, h => Nat.add_le_add (sm_le n (fun i hi => h i (by omega))) (h n (by omega))
theorem sm_add (f g : Nat → Nat) : ∀ n, sm (fun i => f i + g i) n = sm f n + sm g n
  | 0 => rfl
  | n + 1 => by unfold sm; rw [sm_add f g n]; omega
theorem sm_zero : ∀ n, sm (fun _ => 0) n = 0
  | 0 => rfl
  | n + 1 => by unfold sm; rw [sm_zero n]
theorem sm_one {k : Nat} (v : Nat) : ∀ n, k < n → sm (fun i => if i = k then v else 0) n = v
  | 0, h => by omega
  | n + 1, h => by
    unfold sm
    by_cases e : k = n
    · subst e
      have : sm (fun i => if i = k then v else 0) k = 0 := by
        rw [← sm_zero k]
        have h1 : sm (fun i => if i = k then v else 0) k ≤ sm (fun _ => 0) k := sm_le k (fun i hi => by rw [if_neg (by omega)]; exact Nat.le_refl _)
        rw [sm_zero] at h1 ⊢
        omega
      rw [this]
      simp
    · rw [sm_one v n (by omega), if_neg (by omega), Nat.add_zero]
/-- one that went: of which task, due when, asked for when, from when -/
structure Sl where
  k : Nat
  d : Nat
  a : Nat
  s : Nat
/-- what went, in order -/
structure Run (C T J f : Nat → Nat) (L : List Sl) : Prop where
  ord : L.Pairwise (fun x y => x.s + C x.k ≤ y.s ∧ (y.a ≤ x.s → x.k < y.k ∨ (x.k = y.k ∧ x.d < y.d)) ∧ (x.k = y.k → x.d ≠ y.d))
  ask : ∀ x ∈ L, x.a ≤ x.s
  jit : ∀ x ∈ L, x.d ≤ x.a ∧ x.a ≤ x.d + J x.k
  work : ∀ y ∈ L, ∀ u, y.a ≤ u → u < y.s → ∃ x ∈ L, x.s ≤ u ∧ u < x.s + C x.k
  per : ∀ x ∈ L, ∃ j, x.d = f x.k + j * T x.k
  cpos : ∀ x ∈ L, 0 < C x.k
  tpos : ∀ x ∈ L, J x.k < T x.k
theorem pair_tot {α : Type} {R : α → α → Prop} : ∀ {L : List α}, L.Pairwise R → ∀ x ∈ L, ∀ y ∈ L, x = y ∨ R x y ∨ R y x
  | [], _, x, hx, _, _ => by cases hx
  | z :: L, h, x, hx, y, hy => by
    rw [List.pairwise_cons] at h
    rcases List.mem_cons.1 hx with ex | hx'
    · rcases List.mem_cons.1 hy with ey | hy'
      · exact .inl (ex.trans ey.symm)
      · subst ex
        exact .inr (.inl (h.1 y hy'))
    · rcases List.mem_cons.1 hy with ey | hy'
      · subst ey
        exact .inr (.inr (h.1 x hx'))
      · exact pair_tot h.2 x hx' y hy'
/-- how much of [t0, t) one takes -/
def ov (C : Nat → Nat) (t0 t : Nat) (x : Sl) : Nat := min (x.s + C x.k) t - max x.s t0
theorem ov_step {C : Nat → Nat} {t0 t : Nat} (ht : t0 ≤ t) (x : Sl) : ov C t0 (t + 1) x = ov C t0 t x + (if x.s ≤ t ∧ t < x.s + C x.k then 1 else 0) := by
  unfold ov
  split <;> omega
theorem ov_self (C : Nat → Nat) (t0 : Nat) (x : Sl) : ov C t0 t0 x = 0 := by
  unfold ov
  omega
theorem sum_step {C : Nat → Nat} {t0 t : Nat} (ht : t0 ≤ t) : ∀ L : List Sl, (∃ x ∈ L, x.s ≤ t ∧ t < x.s + C x.k) → (L.map (ov C t0 t)).sum + 1 ≤ (L.map (ov C t0 (t + 1))).sum
  | [], h => by obtain ⟨x, hx, -⟩ := h; cases hx
  | y :: L, h => by
    have hmono : ∀ L : List Sl, (L.map (ov C t0 t)).sum ≤ (L.map (ov C t0 (t + 1))).sum := by
      intro L
      induction L with
      | nil => exact Nat.le_refl _
      | cons z L ih => simp only [List.map_cons, List.sum_cons]; rw [ov_step ht z]; omega
    simp only [List.map_cons, List.sum_cons]
    obtain ⟨x, hx, h1⟩ := h
    rcases List.mem_cons.1 hx with rfl | hx
    · rw [ov_step ht x, if_pos h1]
      have := hmono L
      omega
    · have := sum_step ht L ⟨x, hx, h1⟩
      rw [ov_step ht y]
      omega
/-- a time that is busy all along is taken up -/
theorem cover {C : Nat → Nat} {L : List Sl} {t0 : Nat} : ∀ n, (∀ u, t0 ≤ u → u < t0 + n → ∃ x ∈ L, x.s ≤ u ∧ u < x.s + C x.k) → n ≤ (L.map (ov C t0 (t0 + n))).sum
  | 0, _ => Nat.zero_le _
  | n + 1, h => by
    have h1 := cover n (fun u h0 h1 => h u h0 (by omega))
    have h2 := sum_step (C := C) (t0 := t0) (t := t0 + n) (by omega) L (h (t0 + n) (by omega) (by omega))
    have e : t0 + (n + 1) = t0 + n + 1 := by omega
    rw [e]
    omega
theorem nodup_len {n : Nat} : ∀ (D : List Nat), D.Nodup → (∀ x ∈ D, x < n) → D.length ≤ n := by
  induction n with
  | zero =>
    intro D _ h
    cases D with
    | nil => exact Nat.le_refl _
    | cons a l => exact absurd (h a (by simp)) (by omega)
  | succ n ih =>
    intro D hd h
    by_cases hn : n ∈ D
    · have h1 := ih (D.erase n) (hd.erase n) (fun x hx => by
        rw [hd.mem_erase_iff] at hx
        have := h x hx.2
        have := hx.1
        omega)
      rw [List.length_erase_of_mem hn] at h1
      have := List.length_pos_of_mem hn
      omega
    · have := ih D hd (fun x hx => by
        have h1 := h x hx
        have h2 : x ≠ n := fun e => hn (e ▸ hx)
        omega)
      omega
/-- different dues of one task within a time: how many at most -/
theorem dues_len {T J f t0 hi : Nat} (hT : 0 < T) {D : List Nat} (hd : D.Nodup) (hper : ∀ d ∈ D, ∃ j, d = f + j * T) (hlo : ∀ d ∈ D, t0 ≤ d + J) (hhi : ∀ d ∈ D, d + J ≤ t0 + hi) : D.length ≤ hi / T + 1 := by
  have hlt : ∀ d ∈ D, (d + J - t0) / T < hi / T + 1 := fun d hx => by
    have h2 := hhi d hx
    have : (d + J - t0) / T ≤ hi / T := Nat.div_le_div_right (by omega)
    omega
  have hinj : (D.map (fun d => (d + J - t0) / T)).Nodup := by
    have key : ∀ D' : List Nat, D'.Nodup → (∀ d ∈ D', d ∈ D) → (D'.map (fun d => (d + J - t0) / T)).Nodup := by
      intro D'
      induction D' with
      | nil => intro _ _; exact List.nodup_nil
      | cons a l ih =>
        intro h1 h2
        rw [List.nodup_cons] at h1
        rw [List.map_cons, List.nodup_cons]
        refine ⟨fun hx => ?_, ih h1.2 (fun d hd => h2 d (List.mem_cons_of_mem _ hd))⟩
        obtain ⟨b, hb, he⟩ := List.mem_map.1 hx
        have ha := h2 a List.mem_cons_self
        have hbD := h2 b (List.mem_cons_of_mem _ hb)
        have hne : b ≠ a := fun e => h1.1 (e ▸ hb)
        obtain ⟨ja, ea⟩ := hper a ha
        obtain ⟨jb, eb⟩ := hper b hbD
        have la := hlo a ha
        have lb := hlo b hbD
        have step : ∀ x y jx jy, x = f + jx * T → y = f + jy * T → t0 ≤ x + J → jx < jy → (x + J - t0) / T < (y + J - t0) / T := by
          intro x y jx jy ex ey lx hj
          have h3 : jx * T + T ≤ jy * T := by
            have := Nat.mul_le_mul_right T (show jx + 1 ≤ jy from hj)
            rw [Nat.add_mul, Nat.one_mul] at this
            exact this
          have h4 : x + J - t0 + T ≤ y + J - t0 := by omega
          have h5 : (x + J - t0 + T) / T ≤ (y + J - t0) / T := Nat.div_le_div_right h4
          rw [Nat.add_div_right _ hT] at h5
          omega
        rcases Nat.lt_trichotomy ja jb with h | h | h
        · have := step a b ja jb ea eb la h; omega
        · subst h; exact hne (eb.trans ea.symm)
        · have := step b a jb ja eb ea lb h; omega
    exact key D hd (fun d h => h)
  have := nodup_len (D.map (fun d => (d + J - t0) / T)) hinj (fun x hx => by
    obtain ⟨d, hd, rfl⟩ := List.mem_map.1 hx
    exact hlt d hd)
  rwa [List.length_map] at this
/-- what some take, by tasks -/
theorem by_task (C : Nat → Nat) {n : Nat} : ∀ R : List Sl, (∀ x ∈ R, x.k < n) → (R.map (fun x => C x.k)).sum = sm (fun k => (R.filter (fun x => x.k == k)).length * C k) n
  | [], _ => by
    have : sm (fun k => (([] : List Sl).filter (fun x => x.k == k)).length * C k) n = sm (fun _ => 0) n := by
      congr 1
      funext k
      simp
    rw [this, sm_zero]
    rfl
  | y :: R, h => by
    have ih := by_task C R (fun x hx => h x (List.mem_cons_of_mem _ hx))
    have hy := h y List.mem_cons_self
    rw [List.map_cons, List.sum_cons, ih]
    have e : (fun k => ((y :: R).filter (fun x => x.k == k)).length * C k) = fun k => (if k = y.k then C y.k else 0) + (R.filter (fun x => x.k == k)).length * C k := by
      funext k
      by_cases hk : k = y.k
      · subst hk
        simp [Nat.add_mul]
        omega
      · have : (y.k == k) = false := by rw [beq_eq_false_iff_ne]; exact fun e => hk e.symm
        simp [this, hk]
    rw [e, sm_add, sm_one _ n hy]
theorem sum_two {g h : Sl → Nat} {p q : Sl → Bool} : ∀ L : List Sl, (∀ x ∈ L, g x ≤ (if p x = true then h x else 0) + (if q x = true then h x else 0)) → (L.map g).sum ≤ ((L.filter p).map h).sum + ((L.filter q).map h).sum
  | [], _ => Nat.zero_le _
  | y :: L, hl => by
    have ih := sum_two L (fun x hx => hl x (List.mem_cons_of_mem _ hx))
    have hy := hl y List.mem_cons_self
    rw [List.map_cons, List.sum_cons, List.filter_cons, List.filter_cons]
    split <;> split <;> simp_all <;> omega
theorem sum_lt {g h : Sl → Nat} {p q : Sl → Bool} : ∀ L : List Sl, (∀ x ∈ L, g x ≤ (if p x = true then h x else 0) + (if q x = true then h x else 0)) → (∃ z ∈ L, g z + 1 ≤ (if p z = true then h z else 0) + (if q z = true then h z else 0)) → (L.map g).sum + 1 ≤ ((L.filter p).map h).sum + ((L.filter q).map h).sum
  | [], _, hz => by obtain ⟨z, hz, -⟩ := hz; cases hz
  | y :: L, hl, hz => by
    have h0 := sum_two L (fun x hx => hl x (List.mem_cons_of_mem _ hx))
    have hy := hl y List.mem_cons_self
    have key : g y + (L.map g).sum + 1 ≤ (if p y = true then h y else 0) + (if q y = true then h y else 0) + (((L.filter p).map h).sum + ((L.filter q).map h).sum) := by
      obtain ⟨z, hz, hlt⟩ := hz
      rcases List.mem_cons.1 hz with e | hz
      · subst e; omega
      · have ih := sum_lt L (fun x hx => hl x (List.mem_cons_of_mem _ hx)) ⟨z, hz, hlt⟩
        omega
    rw [List.map_cons, List.sum_cons, List.filter_cons, List.filter_cons]
    by_cases h1 : p y = true <;> by_cases h2 : q y = true <;> simp only [h1, h2, if_true, if_false, Bool.false_eq_true, List.map_cons, List.sum_cons] at key ⊢ <;> omega
theorem filter_mono {p q : Sl → Bool} : ∀ L : List Sl, (∀ x ∈ L, p x = true → q x = true) → (L.filter p).length ≤ (L.filter q).length
  | [], _ => Nat.le_refl _
  | y :: L, h => by
    have ih := filter_mono L (fun x hx => h x (List.mem_cons_of_mem _ hx))
    have hy := h y List.mem_cons_self
    rw [List.filter_cons, List.filter_cons]
    by_cases h1 : p y = true
    · rw [if_pos h1, if_pos (hy h1)]
      simp only [List.length_cons]
      omega
    · rw [if_neg h1]
      split
      · simp only [List.length_cons]; omega
      · exact ih
theorem Run.same {C T J f : Nat → Nat} {L : List Sl} (h : Run C T J f L) {x y : Sl} (hx : x ∈ L) (hy : y ∈ L) (hk : x.k = y.k) (hd : x.d = y.d) : x = y := by
  rcases pair_tot h.ord x hx y hy with e | e | e
  · exact e
  · exact absurd hd (e.2.2 hk)
  · exact absurd hd.symm (e.2.2 hk.symm)
theorem Run.nodup {C T J f : Nat → Nat} {L : List Sl} (h : Run C T J f L) : L.Nodup := h.ord.imp (fun hab e => by subst e; exact hab.2.2 rfl rfl)
/-- the dues of those of one task among some -/
theorem Run.dues {C T J f : Nat → Nat} {L : List Sl} (h : Run C T J f L) (p : Sl → Bool) (k : Nat) : (((L.filter p).filter (fun x => x.k == k)).map Sl.d).Nodup := by
  have key : ∀ R : List Sl, R.Nodup → (∀ x ∈ R, x ∈ L ∧ x.k = k) → (R.map Sl.d).Nodup := by
    intro R
    induction R with
    | nil => intro _ _; exact List.nodup_nil
    | cons a l ih =>
      intro h1 h2
      rw [List.nodup_cons] at h1
      rw [List.map_cons, List.nodup_cons]
      refine ⟨fun hx => ?_, ih h1.2 (fun x hx => h2 x (List.mem_cons_of_mem _ hx))⟩
      obtain ⟨b, hb, he⟩ := List.mem_map.1 hx
      have ha := h2 a List.mem_cons_self
      have hb2 := h2 b (List.mem_cons_of_mem _ hb)
      have e := h.same hb2.1 ha.1 (hb2.2.trans ha.2.symm) he
      exact h1.1 (e ▸ hb)
  refine key _ ((h.nodup.sublist List.filter_sublist).sublist List.filter_sublist) (fun x hx => ?_)
  rw [List.mem_filter, List.mem_filter] at hx
  exact ⟨hx.1.1, by simpa using hx.2⟩
/-- how many of one task, asked for from t0 on and due by t0 + y, at most -/
theorem Run.count {C T J f : Nat → Nat} {L : List Sl} (h : Run C T J f L) {p : Sl → Bool} {k t0 y : Nat} (hp : ∀ x ∈ L, p x = true → x.k = k → t0 ≤ x.a ∧ x.d ≤ t0 + y) (hT : 0 < T k) : ((L.filter p).filter (fun x => x.k == k)).length ≤ (y + J k) / T k + 1 := by
  have hmem : ∀ d ∈ ((L.filter p).filter (fun x => x.k == k)).map Sl.d, ∃ x ∈ L, p x = true ∧ x.k = k ∧ x.d = d := by
    intro d hd
    obtain ⟨x, hx, he⟩ := List.mem_map.1 hd
    rw [List.mem_filter, List.mem_filter] at hx
    exact ⟨x, hx.1.1, hx.1.2, by simpa using hx.2, he⟩
  have := dues_len (T := T k) (J := J k) (f := f k) (t0 := t0) (hi := y + J k) hT (h.dues p k) (fun d hd => by
    obtain ⟨x, hx, -, hk, rfl⟩ := hmem d hd
    have := h.per x hx
    rwa [hk] at this) (fun d hd => by
    obtain ⟨x, hx, hp1, hk, rfl⟩ := hmem d hd
    have h1 := (h.jit x hx).2
    have h2 := (hp x hx hp1 hk).1
    rw [hk] at h1
    omega) (fun d hd => by
    obtain ⟨x, hx, hp1, hk, rfl⟩ := hmem d hd
    have h2 := (hp x hx hp1 hk).2
    omega)
  rwa [List.length_map] at this
/-- the last time by which all so far asked for have gone -/
theorem last_quiet {P : Nat → Prop} (h0 : P 0) : ∀ s, ∃ t0, t0 ≤ s ∧ P t0 ∧ ∀ t, t0 < t → t ≤ s → ¬ P t
  | 0 => ⟨0, Nat.le_refl _, h0, fun t h1 h2 => by omega⟩
  | s + 1 => by
    by_cases h : P (s + 1)
    · exact ⟨s + 1, Nat.le_refl _, h, fun t h1 h2 => by omega⟩
    · obtain ⟨t0, h1, h2, h3⟩ := last_quiet h0 s
      refine ⟨t0, by omega, h2, fun t h4 h5 => ?_⟩
      by_cases e : t = s + 1
      · subst e; exact h
      · exact h3 t h4 (by omega)
/-- NO MESSAGE WAITS LONGER: BUSY and w are any fixed points -/
theorem bound {C T J f : Nat → Nat} {L : List Sl} (h : Run C T J f L) {M : Sl} (hM : M ∈ L) {m : Nat} (hm : M.k = m) {B : Nat} (hB : ∀ x ∈ L, m < x.k → C x.k ≤ B) (hT : ∀ k, k ≤ m → 0 < T k) {BUSY : Nat} (hb1 : 1 ≤ BUSY)
    (hbf : BUSY = B + sm (fun k => ((BUSY - 1 + J k) / T k + 1) * C k) (m + 1)) {w : Nat → Nat} (hw : ∀ q, q * T m < BUSY + J m → w q = B + q * C m + sm (fun k => ((w q + J k) / T k + 1) * C k) m) :
    ∃ q, q * T m < BUSY + J m ∧ M.s + C m + q * T m ≤ M.d + w q + J m + C m := by
  obtain ⟨t0, ht0, hP, hlast⟩ := last_quiet (P := fun t => ∀ x ∈ L, x.k ≤ m → x.a < t → x.s + C x.k ≤ t) (fun x _ _ hx => by omega) M.s
  have hpend : ∀ t, t0 < t → t ≤ M.s → ∃ z ∈ L, z.k ≤ m ∧ z.a < t ∧ t < z.s + C z.k := by
    intro t h1 h2
    refine Classical.byContradiction fun hc => hlast t h1 h2 (fun x hx hk ha => ?_)
    refine Classical.byContradiction fun hc2 => hc ⟨x, hx, hk, ha, by omega⟩
  have hbusy : ∀ u, t0 ≤ u → u < M.s → ∃ x ∈ L, x.s ≤ u ∧ u < x.s + C x.k := by
    intro u h1 h2
    obtain ⟨z, hz, hk, ha, he⟩ := hpend (u + 1) (by omega) (by omega)
    by_cases hs : z.s ≤ u
    · exact ⟨z, hz, hs, by omega⟩
    · exact h.work z hz u (by omega) (by omega)
  have hup : ∀ x ∈ L, x.k ≤ m → t0 < x.s + C x.k → t0 ≤ x.a := by
    intro x hx hk he
    refine Classical.byContradiction fun hc => ?_
    have := hP x hx hk (by omega)
    omega
  have hlow : ∀ x ∈ L, m < x.k → x.s < M.s → t0 < x.s + C x.k → x.s ≤ t0 := by
    intro x hx hk hs he
    refine Classical.byContradiction fun hc => ?_
    obtain ⟨z, hz, hzk, hza, hze⟩ := hpend x.s (by omega) (by omega)
    rcases pair_tot h.ord x hx z hz with e | e | e
    · subst e; omega
    · rcases e.2.1 (by omega) with e1 | e1
      · omega
      · omega
    · have := e.1
      omega
  have hMa : t0 ≤ M.a := hup M hM (by omega) (by have := h.cpos M hM; omega)
  have hlowsum : ∀ t, t ≤ M.s → ((L.filter (fun x => decide (m < x.k ∧ x.s < t ∧ t0 < x.s + C x.k))).map (fun x => C x.k)).sum ≤ B := by
    intro t ht
    have hall : ∀ x ∈ L.filter (fun x => decide (m < x.k ∧ x.s < t ∧ t0 < x.s + C x.k)), x ∈ L ∧ m < x.k ∧ x.s ≤ t0 ∧ t0 < x.s + C x.k := by
      intro x hx
      rw [List.mem_filter] at hx
      have h2 := of_decide_eq_true hx.2
      exact ⟨hx.1, h2.1, hlow x hx.1 h2.1 (by omega) h2.2.2, h2.2.2⟩
    have hnd := h.nodup.sublist (List.filter_sublist (l := L) (p := fun x => decide (m < x.k ∧ x.s < t ∧ t0 < x.s + C x.k)))
    generalize L.filter (fun x => decide (m < x.k ∧ x.s < t ∧ t0 < x.s + C x.k)) = R at hall hnd
    match R, hall, hnd with
    | [], _, _ => exact Nat.zero_le _
    | [x], hall, _ =>
      have := hall x (by simp)
      simpa using hB x this.1 this.2.1
    | x :: y :: l, hall, hnd =>
      exfalso
      have hx := hall x (by simp)
      have hy := hall y (by simp)
      rcases pair_tot h.ord x hx.1 y hy.1 with e | e | e
      · subst e
        simp at hnd
      · have := e.1; omega
      · have := e.1; omega
  have hov : ∀ t x, ov C t0 t x ≤ C x.k ∧ (0 < ov C t0 t x → x.s < t ∧ t0 < x.s + C x.k) := by
    intro t x
    unfold ov
    constructor <;> omega
  obtain ⟨X, hX⟩ : ∃ X, X = M.s - t0 := ⟨_, rfl⟩
  obtain ⟨q, hq⟩ : ∃ q, q = ((L.filter (fun x => decide (x.k ≤ m ∧ t0 < x.s + C x.k ∧ x.s < M.s))).filter (fun x => x.k == m)).length := ⟨_, rfl⟩
  have hTm := hT m (Nat.le_refl _)
  -- how many of its own task go ahead of it
  have hq1 : t0 + q * T m ≤ M.d + J m := by
    have hown : ∀ x ∈ L, decide (x.k ≤ m ∧ t0 < x.s + C x.k ∧ x.s < M.s) = true → x.k = m → t0 ≤ x.a ∧ x.d + T m ≤ M.d := by
      intro x hx hp hk
      have hp := of_decide_eq_true hp
      refine ⟨hup x hx hp.1 hp.2.1, ?_⟩
      have hne : x ≠ M := fun e => by subst e; omega
      obtain ⟨jx, ex⟩ := h.per x hx
      obtain ⟨jm, em⟩ := h.per M hM
      rw [hk] at ex
      rw [hm] at em
      have hjx := h.jit x hx
      have hjm := h.jit M hM
      have hax := h.ask x hx
      have htp := h.tpos M hM
      rw [hm] at hjm htp
      have hmul : ∀ a b : Nat, a < b → a * T m + T m ≤ b * T m := by
        intro a b hab
        have := Nat.mul_le_mul_right (T m) (show a + 1 ≤ b from hab)
        rw [Nat.add_mul, Nat.one_mul] at this
        exact this
      rcases Nat.lt_trichotomy jx jm with e | e | e
      · have := hmul jx jm e
        omega
      · subst e
        exact absurd (h.same hx hM (hk.trans hm.symm) (by omega)) hne
      · exfalso
        have h3 := hmul jm jx e
        have h4 : M.a ≤ x.s := by omega
        rcases pair_tot h.ord x hx M hM with e1 | e1 | e1
        · exact hne e1
        · rcases e1.2.1 h4 with e2 | e2 <;> omega
        · have := e1.1
          omega
    by_cases h0 : q = 0
    · rw [h0, Nat.zero_mul]
      have := (h.jit M hM).2
      rw [hm] at this
      omega
    · have hge : t0 + T m ≤ M.d + J m := by
        obtain ⟨x, hx⟩ := List.exists_mem_of_length_pos (show 0 < ((L.filter (fun x => decide (x.k ≤ m ∧ t0 < x.s + C x.k ∧ x.s < M.s))).filter (fun x => x.k == m)).length by omega)
        rw [List.mem_filter, List.mem_filter] at hx
        have hk : x.k = m := by simpa using hx.2
        have h1 := hown x hx.1.1 hx.1.2 hk
        have h2 := (h.jit x hx.1.1).2
        rw [hk] at h2
        omega
      have hd := h.dues (fun x => decide (x.k ≤ m ∧ t0 < x.s + C x.k ∧ x.s < M.s)) m
      have hmem : ∀ d ∈ ((L.filter (fun x => decide (x.k ≤ m ∧ t0 < x.s + C x.k ∧ x.s < M.s))).filter (fun x => x.k == m)).map Sl.d, ∃ x ∈ L, decide (x.k ≤ m ∧ t0 < x.s + C x.k ∧ x.s < M.s) = true ∧ x.k = m ∧ x.d = d := by
        intro d hd
        obtain ⟨x, hx, he⟩ := List.mem_map.1 hd
        rw [List.mem_filter, List.mem_filter] at hx
        exact ⟨x, hx.1.1, hx.1.2, by simpa using hx.2, he⟩
      have hl := dues_len (T := T m) (J := J m) (f := f m) (t0 := t0) (hi := M.d + J m - t0 - T m) hTm hd (fun d hd => by
        obtain ⟨x, hx, -, hk, rfl⟩ := hmem d hd
        have := h.per x hx
        rwa [hk] at this) (fun d hd => by
        obtain ⟨x, hx, hp1, hk, rfl⟩ := hmem d hd
        have h1 := (h.jit x hx).2
        have h2 := (hown x hx hp1 hk).1
        rw [hk] at h1
        omega) (fun d hd => by
        obtain ⟨x, hx, hp1, hk, rfl⟩ := hmem d hd
        have h2 := (hown x hx hp1 hk).2
        omega)
      rw [List.length_map, ← hq] at hl
      have h5 : (q - 1) * T m ≤ M.d + J m - t0 - T m := by
        have h6 : q - 1 ≤ (M.d + J m - t0 - T m) / T m := by omega
        exact Nat.le_trans (Nat.mul_le_mul_right _ h6) (Nat.div_mul_le_self _ _)
      have h7 : q * T m = (q - 1) * T m + T m := by
        have : q = q - 1 + 1 := by omega
        rw [this, Nat.add_mul, Nat.one_mul, Nat.add_sub_cancel]
      omega
  -- the bus is taken up all along
  have hfix : ∀ y, y < X → y < B + q * C m + sm (fun k => ((y + J k) / T k + 1) * C k) m := by
    intro y hy
    have h1 := cover (C := C) (L := L) (t0 := t0) (y + 1) (fun u a b => hbusy u a (by omega))
    have h2 := sum_two (g := ov C t0 (t0 + (y + 1))) (h := fun x => C x.k) (p := fun x => decide (m < x.k ∧ x.s < t0 + (y + 1) ∧ t0 < x.s + C x.k)) (q := fun x => decide (x.k ≤ m ∧ x.s < t0 + (y + 1) ∧ t0 < x.s + C x.k)) L (fun x _ => by
      have ho := hov (t0 + (y + 1)) x
      by_cases hz : 0 < ov C t0 (t0 + (y + 1)) x
      · have ho2 := ho.2 hz
        by_cases hk : m < x.k
        · rw [if_pos (decide_eq_true ⟨hk, ho2⟩)]
          omega
        · have hk2 : x.k ≤ m := by omega
          have e2 : (if decide (x.k ≤ m ∧ x.s < t0 + (y + 1) ∧ t0 < x.s + C x.k) = true then C x.k else 0) = C x.k := if_pos (decide_eq_true ⟨hk2, ho2⟩)
          rw [e2]
          omega
      · omega)
    have h3 := hlowsum (t0 + (y + 1)) (by omega)
    have h4 := by_task C (n := m + 1) (L.filter (fun x => decide (x.k ≤ m ∧ x.s < t0 + (y + 1) ∧ t0 < x.s + C x.k))) (fun x hx => by
      rw [List.mem_filter] at hx
      have := of_decide_eq_true hx.2
      omega)
    have h5 : sm (fun k => ((L.filter (fun x => decide (x.k ≤ m ∧ x.s < t0 + (y + 1) ∧ t0 < x.s + C x.k))).filter (fun x => x.k == k)).length * C k) m ≤ sm (fun k => ((y + J k) / T k + 1) * C k) m := sm_le m (fun k hk => Nat.mul_le_mul_right _ (h.count (t0 := t0) (y := y) (fun x hx hp _ => by
      have hp := of_decide_eq_true hp
      have h6 := hup x hx hp.1 hp.2.2
      have h7 := h.ask x hx
      have h8 := (h.jit x hx).1
      omega) (hT k (by omega))))
    have h6 : ((L.filter (fun x => decide (x.k ≤ m ∧ x.s < t0 + (y + 1) ∧ t0 < x.s + C x.k))).filter (fun x => x.k == m)).length ≤ q := by
      rw [hq, List.filter_filter, List.filter_filter]
      refine filter_mono L (fun x hx hp => ?_)
      simp only [Bool.and_eq_true, decide_eq_true_eq] at hp ⊢
      exact ⟨hp.1, hp.2.1, hp.2.2.2, by omega⟩
    have h7 : ((L.filter (fun x => decide (x.k ≤ m ∧ x.s < t0 + (y + 1) ∧ t0 < x.s + C x.k))).filter (fun x => x.k == m)).length * C m ≤ q * C m := Nat.mul_le_mul_right _ h6
    unfold sm at h4
    omega
  have hbus : ∀ y, 1 ≤ y → y ≤ X → y < B + sm (fun k => ((y - 1 + J k) / T k + 1) * C k) (m + 1) := by
    intro y hy1 hyX
    obtain ⟨z, hz, hzk, hza, hze⟩ := hpend (t0 + y) (by omega) (by omega)
    have h1 := cover (C := C) (L := L) (t0 := t0) y (fun u a b => hbusy u a (by omega))
    have h2 := sum_lt (g := ov C t0 (t0 + y)) (h := fun x => C x.k) (p := fun x => decide (m < x.k ∧ x.s < t0 + y ∧ t0 < x.s + C x.k)) (q := fun x => decide (x.k ≤ m ∧ t0 ≤ x.a ∧ x.a < t0 + y)) L (fun x hx => by
      have ho := hov (t0 + y) x
      by_cases hz : 0 < ov C t0 (t0 + y) x
      · have ho2 := ho.2 hz
        by_cases hk : m < x.k
        · rw [if_pos (decide_eq_true ⟨hk, ho2⟩)]
          omega
        · have hk2 : x.k ≤ m := by omega
          have h6 := hup x hx hk2 ho2.2
          have h7 := h.ask x hx
          have e2 : (if decide (x.k ≤ m ∧ t0 ≤ x.a ∧ x.a < t0 + y) = true then C x.k else 0) = C x.k := if_pos (decide_eq_true ⟨hk2, h6, by omega⟩)
          rw [e2]
          omega
      · omega) ⟨z, hz, by
      have h6 := hup z hz hzk (by omega)
      have e2 : (if decide (z.k ≤ m ∧ t0 ≤ z.a ∧ z.a < t0 + y) = true then C z.k else 0) = C z.k := if_pos (decide_eq_true ⟨hzk, h6, hza⟩)
      rw [e2]
      have h8 := h.cpos z hz
      have h9 : ov C t0 (t0 + y) z + 1 ≤ C z.k := by
        unfold ov
        omega
      omega⟩
    have h3 := hlowsum (t0 + y) (by omega)
    have h4 := by_task C (n := m + 1) (L.filter (fun x => decide (x.k ≤ m ∧ t0 ≤ x.a ∧ x.a < t0 + y))) (fun x hx => by
      rw [List.mem_filter] at hx
      have := of_decide_eq_true hx.2
      omega)
    have h5 : sm (fun k => ((L.filter (fun x => decide (x.k ≤ m ∧ t0 ≤ x.a ∧ x.a < t0 + y))).filter (fun x => x.k == k)).length * C k) (m + 1) ≤ sm (fun k => ((y - 1 + J k) / T k + 1) * C k) (m + 1) := sm_le (m + 1) (fun k hk => Nat.mul_le_mul_right _ (h.count (t0 := t0) (y := y - 1) (fun x hx hp _ => by
      have hp := of_decide_eq_true hp
      have h8 := (h.jit x hx).1
      omega) (hT k (by omega))))
    omega
  have hXB : X < BUSY := by
    refine Classical.byContradiction fun hc => ?_
    have := hbus BUSY hb1 (by omega)
    omega
  have hMd : M.d ≤ M.s := Nat.le_trans (h.jit M hM).1 (h.ask M hM)
  have hqr : q * T m < BUSY + J m := by omega
  have hwq := hw q hqr
  have hXw : X ≤ w q := by
    refine Classical.byContradiction fun hc => ?_
    have := hfix (w q) (by omega)
    omega
  exact ⟨q, hqr, by omega⟩
end Sb
end Go.Proofs.YtnhnemmddgofnaaDoor
namespace Go.Proofs.YtnhnemmddgofnaaDoor
namespace Sb
open Classical
/-- one that is to go: of which task, due when, asked for when -/
structure Ask where
  k : Nat
  d : Nat
  a : Nat
def Ask.at' (b : Ask) (fr : Nat) : Sl := ⟨b.k, b.d, b.a, fr⟩
/-- the play from a time on: the bus is free then, these are to go -/
def Play (C : Nat → Nat) : Nat → List Ask → List Sl → Prop
  | _, l, [] => l = []
  | free, l, x :: S => ∃ b fr, x = b.at' fr ∧ b ∈ l ∧ free ≤ fr ∧ b.a ≤ fr ∧ (∀ x ∈ l, x.a ≤ fr → b.k < x.k ∨ (b.k = x.k ∧ b.d ≤ x.d)) ∧ (fr = free ∨ ∀ x ∈ l, fr ≤ x.a) ∧ Play C (fr + C b.k) (l.erase b) S
theorem Play.done {C : Nat → Nat} (free : Nat) : Play C free [] [] := rfl
theorem Play.go {C : Nat → Nat} (free fr : Nat) (l : List Ask) (b : Ask) (S : List Sl) (hb : b ∈ l) (hf : free ≤ fr) (ha : b.a ≤ fr) (hp : ∀ x ∈ l, x.a ≤ fr → b.k < x.k ∨ (b.k = x.k ∧ b.d ≤ x.d)) (hi : fr = free ∨ ∀ x ∈ l, fr ≤ x.a) (hS : Play C (fr + C b.k) (l.erase b) S) : Play C free l (b.at' fr :: S) := ⟨b, fr, rfl, hb, hf, ha, hp, hi, hS⟩
theorem Play.ind {C : Nat → Nat} {motive : (free : Nat) → (l : List Ask) → (S : List Sl) → Play C free l S → Prop} (done : ∀ free, motive free [] [] (Play.done free)) (go : ∀ free fr l b S (hb : b ∈ l) (hf : free ≤ fr) (ha : b.a ≤ fr) (hp : ∀ x ∈ l, x.a ≤ fr → b.k < x.k ∨ (b.k = x.k ∧ b.d ≤ x.d)) (hi : fr = free ∨ ∀ x ∈ l, fr ≤ x.a) (hS : Play C (fr + C b.k) (l.erase b) S), motive (fr + C b.k) (l.erase b) S hS → motive free l (b.at' fr :: S) (Play.go free fr l b S hb hf ha hp hi hS)) : ∀ {free : Nat} {l : List Ask} {S : List Sl} (h : Play C free l S), motive free l S h := by
  intro free l S
  induction S generalizing free l with
  | nil =>
    intro h
    have e : l = [] := h
    subst e
    exact done free
  | cons x S ih =>
    intro h
    obtain ⟨b, fr, rfl, hb, hf, ha, hp, hi, hS⟩ := h
    exact go free fr l b S hb hf ha hp hi hS (ih hS)
def key (b : Ask) : Nat × Nat := (b.k, b.d)
theorem key_erase {l : List Ask} {b : Ask} (hb : b ∈ l) (hd : (l.map key).Nodup) : ((l.erase b).map key).Nodup ∧ ∀ x ∈ l.erase b, key x ≠ key b := by
  have hp := (List.perm_cons_erase hb).map key
  have h1 := hp.nodup_iff.1 hd
  rw [List.map_cons, List.nodup_cons] at h1
  exact ⟨h1.2, fun x hx e => h1.1 (e ▸ List.mem_map_of_mem hx)⟩
theorem Play.mem {C : Nat → Nat} {free : Nat} {l : List Ask} {S : List Sl} (h : Play C free l S) : ∀ x ∈ S, (⟨x.k, x.d, x.a⟩ : Ask) ∈ l := by
  induction h using Play.ind with
  | done => intro x hx; cases hx
  | go free fr l b S hb hf ha hp hi hS ih =>
    intro x hx
    rcases List.mem_cons.1 hx with rfl | hx
    · exact hb
    · exact List.mem_of_mem_erase (ih x hx)
theorem Play.from' {C : Nat → Nat} {free : Nat} {l : List Ask} {S : List Sl} (h : Play C free l S) : ∀ x ∈ S, free ≤ x.s ∧ x.a ≤ x.s := by
  induction h using Play.ind with
  | done => intro x hx; cases hx
  | go free fr l b S hb hf ha hp hi hS ih =>
    intro x hx
    rcases List.mem_cons.1 hx with rfl | hx
    · exact ⟨hf, ha⟩
    · have := ih x hx
      exact ⟨by omega, this.2⟩
theorem Play.len {C : Nat → Nat} {free : Nat} {l : List Ask} {S : List Sl} (h : Play C free l S) : S.length = l.length := by
  induction h using Play.ind with
  | done => rfl
  | go free fr l b S hb hf ha hp hi hS ih =>
    rw [List.length_cons, ih, List.length_erase_of_mem hb]
    have := List.length_pos_of_mem hb
    omega
theorem Play.work {C : Nat → Nat} {free : Nat} {l : List Ask} {S : List Sl} (h : Play C free l S) : ∀ y ∈ S, ∀ u, free ≤ u → y.a ≤ u → u < y.s → ∃ x ∈ S, x.s ≤ u ∧ u < x.s + C x.k := by
  induction h using Play.ind with
  | done => intro x hx; cases hx
  | go free fr l b S hb hf ha hp hi hS ih =>
    intro y hy u h0 h1 h2
    have hyl : (⟨y.k, y.d, y.a⟩ : Ask) ∈ l := by
      rcases List.mem_cons.1 hy with rfl | hy
      · exact hb
      · exact List.mem_of_mem_erase (hS.mem y hy)
    by_cases hu : u < fr
    · exfalso
      rcases hi with hi | hi
      · omega
      · have := hi _ hyl
        simp only at this
        omega
    · by_cases hu2 : u < fr + C b.k
      · exact ⟨b.at' fr, List.mem_cons_self, by show fr ≤ u; omega, by show u < fr + C b.k; omega⟩
      · rcases List.mem_cons.1 hy with rfl | hy
        · have : u < fr := h2
          omega
        · obtain ⟨x, hx, h3⟩ := ih y hy u (by omega) h1 h2
          exact ⟨x, List.mem_cons_of_mem _ hx, h3⟩
theorem Play.ord {C : Nat → Nat} {free : Nat} {l : List Ask} {S : List Sl} (h : Play C free l S) (hd : (l.map key).Nodup) : S.Pairwise (fun x y => x.s + C x.k ≤ y.s ∧ (y.a ≤ x.s → x.k < y.k ∨ (x.k = y.k ∧ x.d < y.d)) ∧ (x.k = y.k → x.d ≠ y.d)) := by
  induction h using Play.ind with
  | done => exact List.Pairwise.nil
  | go free fr l b S hb hf ha hp hi hS ih =>
    obtain ⟨hd1, hd2⟩ := key_erase hb hd
    rw [List.pairwise_cons]
    refine ⟨fun y hy => ?_, ih hd1⟩
    have hm := hS.mem y hy
    have hne := hd2 _ hm
    have hml := List.mem_of_mem_erase hm
    refine ⟨(hS.from' y hy).1, fun h1 => ?_, fun e1 e2 => hne ?_⟩
    · rcases hp _ hml h1 with h2 | ⟨h2, h3⟩
      · exact .inl h2
      · refine .inr ⟨h2, ?_⟩
        have h2' : b.k = y.k := h2
        have h3' : b.d ≤ y.d := h3
        have h4 : y.d ≠ b.d := fun e => hne (by unfold key; simp only; rw [e, h2'])
        show b.d < y.d
        omega
    · have e1' : b.k = y.k := e1
      have e2' : b.d = y.d := e2
      unfold key
      simp only
      rw [e1', e2']
/-- the play from 0 on is a run -/
theorem Play.run {C T J f : Nat → Nat} {l : List Ask} {S : List Sl} (h : Play C 0 l S) (hd : (l.map key).Nodup) (hj : ∀ x ∈ l, x.d ≤ x.a ∧ x.a ≤ x.d + J x.k) (hper : ∀ x ∈ l, ∃ j, x.d = f x.k + j * T x.k) (hc : ∀ x ∈ l, 0 < C x.k) (ht : ∀ x ∈ l, J x.k < T x.k) : Run C T J f S where
  ord := h.ord hd
  ask := fun x hx => (h.from' x hx).2
  jit := fun x hx => hj _ (h.mem x hx)
  work := fun y hy u h1 h2 => h.work y hy u (Nat.zero_le _) h1 h2
  per := fun x hx => hper _ (h.mem x hx)
  cpos := fun x hx => hc _ (h.mem x hx)
  tpos := fun x hx => ht _ (h.mem x hx)
/-- of one task's the one that was due first goes first -/
theorem Run.fifo {C T J f : Nat → Nat} {L : List Sl} (h : Run C T J f L) : L.Pairwise (fun x y => x.k = y.k → x.d < y.d) := by
  refine h.ord.imp_of_mem (fun {x y} hx hy hxy hk => ?_)
  obtain ⟨jx, ex⟩ := h.per x hx
  obtain ⟨jy, ey⟩ := h.per y hy
  have hne := hxy.2.2 hk
  rw [← hk] at ey
  have hmul : ∀ a b : Nat, a < b → a * T x.k + T x.k ≤ b * T x.k := by
    intro a b hab
    have := Nat.mul_le_mul_right (T x.k) (show a + 1 ≤ b from hab)
    rw [Nat.add_mul, Nat.one_mul] at this
    exact this
  rcases Nat.lt_trichotomy jx jy with e | e | e
  · have := hmul jx jy e
    have := h.tpos x hx
    omega
  · subst e; omega
  · exfalso
    have h3 := hmul jy jx e
    have hjx := h.jit x hx
    have hjy := h.jit y hy
    have hax := h.ask x hx
    have htp := h.tpos y hy
    rw [← hk] at hjy htp
    rcases hxy.2.1 (by omega) with e2 | e2 <;> omega
/-- there is one play alone, in whatever order those to go are told -/
theorem Play.det {C : Nat → Nat} {free : Nat} {l l' : List Ask} {S S' : List Sl} (h : Play C free l S) (h' : Play C free l' S') (hp : l.Perm l') (hd : (l.map key).Nodup) : S = S' := by
  induction h using Play.ind generalizing l' S' with
  | done free =>
    have hl : l' = [] := List.nil_perm.1 hp
    subst hl
    cases h' using Play.ind with
    | done _ => rfl
    | go _ _ _ b _ hb => cases hb
  | go free fr l b S hb hf ha hpr hi hS ih =>
    cases h' using Play.ind with
    | done _ => exact absurd (hp.mem_iff.1 hb) (by simp)
    | go _ fr' _ b' S1 hb' hf' ha' hpr' hi' hS' _ =>
      have hbl' := hp.mem_iff.1 hb
      have hb'l := hp.mem_iff.2 hb'
      have hfr : fr = fr' := by
        rcases hi with hi | hi <;> rcases hi' with hi' | hi'
        · omega
        · have := hi' b hbl'; omega
        · have := hi b' hb'l; omega
        · have h1 := hi b' hb'l
          have h2 := hi' b hbl'
          omega
      subst hfr
      have hbb : b = b' := by
        have h1 := hpr b' hb'l ha'
        have h2 := hpr' b hbl' ha
        refine Classical.byContradiction fun hne => ?_
        have hk : key b' = key b := by
          unfold key
          have : b'.k = b.k ∧ b'.d = b.d := by omega
          rw [this.1, this.2]
        have hm : b' ∈ l.erase b := (List.mem_erase_of_ne (fun e => hne e.symm)).2 hb'l
        exact (key_erase hb hd).2 b' hm hk
      subst hbb
      rw [ih hS' (hp.erase b) (key_erase hb hd).1]
end Sb
end Go.Proofs.YtnhnemmddgofnaaDoor
namespace Go.Proofs.YtnhnemmddgofnaaDoor
namespace Sb
open Bw (Tk noT chkT chkT_ok okT okT_n cN tN jN upN upN_succ wkN sumN sumN_snoc mostT mostT_cons stopAt waitN setF setF_some bF gF bF_mono bF_from begin_is wQ tQ wtK Lfp)
def cT (l : List Tk) (k : Nat) : Nat := cN (l.getD k noT)
def tT (l : List Tk) (k : Nat) : Nat := tN (l.getD k noT)
def jT (l : List Tk) (k : Nat) : Nat := jN (l.getD k noT)
theorem getD_memT {l : List Tk} {k : Nat} (h : k < l.length) : l.getD k noT ∈ l := by
  simp [List.getD, h]
theorem sumN_sm {l : List Tk} (hT : ∀ k, k < l.length → 1 ≤ tT l k) (t : Nat) : ∀ m, m ≤ l.length → sumN (l.take m) (t + 1) = sm (fun k => ((t + jT l k) / tT l k + 1) * cT l k) m
  | 0, _ => by simp [sumN, sm]
  | m + 1, h => by
    have e : l.take (m + 1) = l.take m ++ [l.getD m noT] := by
      rw [List.take_succ_eq_append_getElem (by omega)]
      simp [List.getD, show m < l.length by omega]
    have e2 : wkN (l.getD m noT) (t + 1) = ((t + jT l m) / tT l m + 1) * cT l m := by
      unfold wkN
      rw [show t + 1 + jN (l.getD m noT) = t + jN (l.getD m noT) + 1 by omega, upN_succ (show 1 ≤ tN (l.getD m noT) from hT m (by omega)), Nat.mul_comm]
      rfl
    rw [e, sumN_snoc, sumN_sm hT t m (by omega), e2]
    rfl
theorem mostT_ge : ∀ {l : List Tk} {x : Tk}, x ∈ l → cN x ≤ mostT l
  | y :: l, x, h => by
    rw [mostT_cons]
    rcases List.mem_cons.1 h with rfl | h
    · omega
    · have := mostT_ge h
      omega
theorem wtK_at (b : Nat) (x : Tk) (l : List Tk) (s : Int) {k : Nat} : ∀ {n : Nat}, k < n → tQ b x l k ≤ wtK b x l s n
  | 0, h => by omega
  | n + 1, h => by
    rw [wtK]
    by_cases e : k = n
    · subst e; omega
    · have := wtK_at b x l s (k := k) (n := n) (by omega)
      omega
theorem upN_lt {q n d : Nat} (hd : 1 ≤ d) (h : q * d < n) : q < upN n d := by
  unfold upN
  rw [Nat.lt_div_iff_mul_lt (by omega)]
  omega
/-- NO MESSAGE WAITS LONGER THAN IS TOLD -/
theorem bound_stop {l : List Tk} (hl : chkT l = 0) {f : Nat → Nat} {L : List Sl} (h : Run (cT l) (tT l) (jT l) f L) (hk : ∀ x ∈ L, x.k < l.length) {M : Sl} (hM : M ∈ L) (h0 : 0 ≤ stopAt l M.k) : ((M.s + cT l M.k : Nat) : Int) - (M.d : Int) ≤ stopAt l M.k := by
  obtain ⟨m, hm⟩ : ∃ m, m = M.k := ⟨_, rfl⟩
  rw [← hm] at h0 ⊢
  have hml : m < l.length := by rw [hm]; exact hk M hM
  have hok := (chkT_ok hl).2
  have hxm := getD_memT hml
  have hx := hok _ hxm
  obtain ⟨o1, o2, o3, o4, o5, -⟩ := okT_n hx
  have hTT : ∀ k, k < l.length → 1 ≤ tT l k := fun k hk => (okT_n (hok _ (getD_memT hk))).2.2.1
  unfold stopAt waitN at h0 ⊢
  cases hs : setF (bF (mostT (l.drop (m + 1))) (l.getD m noT) (l.take m)) (mostT (l.drop (m + 1)) + cN (l.getD m noT)) with
  | none => rw [hs] at h0; simp at h0
  | some BUSY =>
    simp only
    obtain ⟨⟨b1, b2, -⟩, b3⟩ := setF_some (bF_mono _ _ _) (bF_from hx _ _) hs
    have hT : ∀ k, k ≤ m → 0 < tT l k := fun k hk => by
      have := okT_n (hok _ (getD_memT (show k < l.length by omega)))
      unfold tT
      omega
    obtain ⟨q, hq, hb⟩ := bound h hM hm.symm (B := mostT (l.drop (m + 1))) (fun x hx hxk => by
      refine mostT_ge ?_
      have hxl := hk x hx
      rw [List.mem_iff_getElem?]
      refine ⟨x.k - (m + 1), ?_⟩
      rw [List.getElem?_drop, show m + 1 + (x.k - (m + 1)) = x.k by omega, List.getElem?_eq_getElem hxl]
      simp [List.getD, hxl]) hT (BUSY := BUSY) (by omega) (by
      have e1 := sumN_sm hTT (BUSY - 1) m (by omega)
      rw [show BUSY - 1 + 1 = BUSY by omega] at e1
      have e2 : wkN (l.getD m noT) BUSY = ((BUSY - 1 + jT l m) / tT l m + 1) * cT l m := by
        unfold wkN
        rw [show BUSY + jN (l.getD m noT) = BUSY - 1 + jN (l.getD m noT) + 1 by omega, upN_succ o3, Nat.mul_comm]
        rfl
      unfold bF at b2
      rw [e1, e2] at b2
      unfold sm
      omega) (w := wQ (mostT (l.drop (m + 1))) (l.getD m noT) (l.take m)) (fun q hq => by
      obtain ⟨y, hy, ⟨-, hy2, -⟩, -⟩ := begin_is hx b2 b3 (upN_lt o3 hq)
      unfold wQ
      rw [hy]
      simp only [Option.getD_some]
      unfold gF at hy2
      rw [sumN_sm hTT y m (by omega)] at hy2
      exact hy2.symm)
    have hw := wtK_at (mostT (l.drop (m + 1))) (l.getD m noT) (l.take m) 0 (upN_lt o3 hq)
    refine Int.le_trans ?_ hw
    unfold tQ
    have e3 : ((q * tT l m : Nat) : Int) = (q : Int) * (tN (l.getD m noT) : Int) := by rw [Int.natCast_mul]; rfl
    rw [← e3]
    have hb' : M.s + cT l m + q * tT l m ≤ M.d + wQ (mostT (l.drop (m + 1))) (l.getD m noT) (l.take m) q + jN (l.getD m noT) + cN (l.getD m noT) := hb
    omega
end Sb
end Go.Proofs.YtnhnemmddgofnaaDoor
