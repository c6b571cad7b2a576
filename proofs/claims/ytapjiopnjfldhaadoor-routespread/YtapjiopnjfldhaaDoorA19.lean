/- RouteSpread's lines: told bus by bus they are the lines that are told; of no program but for their words. -/
import Derived.Test.YtapjiopnjfldhaaDoorRtRoundM
import Derived.Test.YtapjiopnjfldhaaDoorFilIn
import Derived.Test.YtapjiopnjfldhaaDoorShelfSrtI
import Derived.Sort.OwnSortedInts
import Derived.Test.YtapjiopnjfldhaaDoorRtLinesOf
import Derived.Test.YtapjiopnjfldhaaDoorA10
namespace Go.Proofs.YtapjiopnjfldhaaDoor
namespace Bw
set_option linter.unusedVariables false
/-- what is left while those are taken away of which nothing is carried that is left -/
structure Lft (nx : Pl → List Pl) (S : List Pl) (Lf : Pl → Prop) : Prop where
  sub : ∀ p, Lf p → p ∈ S
  gone : ∀ p ∈ S, ¬ Lf p → ∀ q ∈ nx p, ¬ Lf q
theorem Lft.start (nx : Pl → List Pl) (S : List Pl) : Lft nx S (fun p => p ∈ S) := ⟨fun p h => h, fun p hp hn => absurd hp hn⟩
theorem Lft.del {nx : Pl → List Pl} {S : List Pl} {Lf : Pl → Prop} (h : Lft nx S Lf) {z : Pl} (hn : ∀ q ∈ nx z, ¬ Lf q) : Lft nx S (fun p => Lf p ∧ p ≠ z) := by
  refine ⟨fun p hp => h.sub p hp.1, fun p hp hg q hq hx => ?_⟩
  by_cases e : p = z
  · subst e; exact hn q hq hx.1
  · exact h.gone p hp (fun hl => hg ⟨hl, e⟩) q hq hx.1
/-- a ring is never taken away whole -/
theorem ring_del {nx : Pl → List Pl} {S : List Pl} {Lf R : Pl → Prop} (h : Lft nx S Lf) (hR : Ring nx S R) {z : Pl} (hn : ∀ q ∈ nx z, ¬ Lf q) (ha : ∃ p, R p ∧ Lf p) : ∃ p, R p ∧ Lf p ∧ p ≠ z := by
  obtain ⟨p, hp, hl⟩ := ha
  by_cases e : p = z
  · subst e
    obtain ⟨-, y, hy, hx⟩ := hR p hp
    by_cases hly : Lf y
    · refine ⟨y, hy, hly, fun e => ?_⟩
      subst e
      exact hn y hx hl
    · exact absurd hl (h.gone y (hR y hy).1 hly p hx)
  · exact ⟨p, hp, hl, e⟩
/-- where there is no round nothing has something behind it for ever -/
theorem round_no_left {F : Nat} {nx : Pl → List Pl} {s : Pl} {P : List Pl} (hW : Web F nx s P P.length) (h : Kn.Round (nxL nx s P P.length) false) {Lf : Pl → Prop} (hs : ∀ p, Lf p → p ∈ P) (hL : ∀ p, Lf p → ∃ q ∈ nx p, Lf q) : ∀ p, ¬ Lf p := by
  obtain ⟨O, hnd, hcov, hord⟩ := h.no rfl
  rw [nxL_len] at hcov hord
  have key : ∀ n m, O.length - m = n → m < O.length → ∀ hk : O.getD m 0 < P.length, ¬ Lf P[O.getD m 0] := by
    intro n
    induction n using Nat.strongRecOn with
    | ind n ih =>
      intro m hn hm hk hl
      obtain ⟨q, hq, hlq⟩ := hL _ hl
      obtain ⟨i, hi, rfl⟩ := List.mem_iff_getElem.1 (hs q hlq)
      obtain ⟨m2, hm2, he2⟩ := List.mem_iff_getElem.1 (hcov i hi)
      have hg2 : O.getD m2 0 = i := by simp [List.getD, hm2, he2]
      have hin : ((O.getD m2 0 : Nat) : Int) ∈ (nxL nx s P P.length).getD (O.getD m 0) [] := by
        rw [nxL_row hk, hg2, idxL_mem hW.nodup hi]
        have e2 : P.getD (O.getD m 0) s = P[O.getD m 0] := by
          rw [List.getD, List.getElem?_eq_getElem hk]; rfl
        rw [e2]
        exact hq
      obtain ⟨m', hm', he'⟩ := hord m2 hm2 (O.getD m 0) hk hin
      have hm3 : m' < O.length := by omega
      have e4 : O[m'] = O[m] := by
        have h1 : O.getD m' 0 = O[m'] := by simp [List.getD, hm3]
        have h2 : O.getD m 0 = O[m] := by simp [List.getD, hm]
        rw [← h1, ← h2]; exact he'
      have e5 : m' = m := by
        have h1 := hnd.idxOf_getElem m' hm3
        have h2 := hnd.idxOf_getElem m hm
        rw [e4] at h1
        omega
      subst e5
      refine ih (O.length - m2) (by omega) m2 rfl hm2 (by rw [hg2]; exact hi) ?_
      have e6 : P[O.getD m2 0]'(by rw [hg2]; exact hi) = P[i] := by congr 1
      rw [e6]
      exact hlq
  intro p hp
  obtain ⟨i, hi, rfl⟩ := List.mem_iff_getElem.1 (hs p hp)
  obtain ⟨m, hm, he⟩ := List.mem_iff_getElem.1 (hcov i hi)
  have hg : O.getD m 0 = i := by simp [List.getD, hm, he]
  refine key _ m rfl hm (by rw [hg]; exact hi) ?_
  have e6 : P[O.getD m 0]'(by rw [hg]; exact hi) = P[i] := by congr 1
  rw [e6]
  exact hp
/-- places that have been, and that are to come, whatever there are of them -/
structure Bfx (nx : Pl → List Pl) (s : Pl) (S W : List Pl) : Prop where
  nodup : S.Nodup
  all : ∀ Q : Pl → Prop, Q s → (∀ p, Q p → ∀ q ∈ nx p, Q q) → ∀ p, p ∈ S ∨ p ∈ W → Q p
  start : s ∈ S ∨ s ∈ W
  closed : ∀ p ∈ S, ∀ q ∈ nx p, q ∈ S ∨ q ∈ W
theorem Bfx.new (nx : Pl → List Pl) (s : Pl) : Bfx nx s [] [s] :=
  ⟨List.nodup_nil, fun Q hs _ p hp => by rcases hp with hp | hp; (· cases hp); (· rw [List.mem_singleton] at hp; subst hp; exact hs), .inr (by simp), fun p hp => by cases hp⟩
theorem Bfx.skip {nx : Pl → List Pl} {s x : Pl} {S W : List Pl} (h : Bfx nx s S (x :: W)) (hx : x ∈ S) : Bfx nx s S W := by
  have key : ∀ q, q ∈ S ∨ q ∈ x :: W → q ∈ S ∨ q ∈ W := by
    rintro q (h1 | h1)
    · exact .inl h1
    · rcases List.mem_cons.1 h1 with rfl | h1
      · exact .inl hx
      · exact .inr h1
  exact ⟨h.nodup, fun Q hs hc p hp => h.all Q hs hc p (hp.imp id (List.mem_cons_of_mem _)), key s h.start, fun p hp q hq => key q (h.closed p hp q hq)⟩
theorem Bfx.take {nx : Pl → List Pl} {s x : Pl} {S W : List Pl} (h : Bfx nx s S (x :: W)) (hx : x ∉ S) : Bfx nx s (S ++ [x]) (W ++ nx x) := by
  have key : ∀ q, q ∈ S ∨ q ∈ x :: W → q ∈ S ++ [x] ∨ q ∈ W ++ nx x := by
    rintro q (h1 | h1)
    · exact .inl (List.mem_append_left _ h1)
    · rcases List.mem_cons.1 h1 with rfl | h1
      · exact .inl (by simp)
      · exact .inr (List.mem_append_left _ h1)
  refine ⟨?_, ?_, key s h.start, ?_⟩
  · rw [List.nodup_append]
    exact ⟨h.nodup, by simp, fun a ha b hb e => by rw [List.mem_singleton] at hb; subst hb; subst e; exact hx ha⟩
  · intro Q hs hc p hp
    have hQx := h.all Q hs hc x (.inr List.mem_cons_self)
    rcases hp with hp | hp
    · rcases List.mem_append.1 hp with hp | hp
      · exact h.all Q hs hc p (.inl hp)
      · rw [List.mem_singleton] at hp; subst hp; exact hQx
    · rcases List.mem_append.1 hp with hp | hp
      · exact h.all Q hs hc p (.inr (List.mem_cons_of_mem _ hp))
      · exact hc x hQx p hp
  · intro p hp q hq
    rcases List.mem_append.1 hp with hp | hp
    · exact key q (h.closed p hp q hq)
    · rw [List.mem_singleton] at hp; subst hp
      exact .inr (List.mem_append_right _ hq)
theorem len_subX : ∀ (l m : List Pl), l.Nodup → (∀ x ∈ l, x ∈ m) → l.length ≤ m.length
  | [], m, _, _ => Nat.zero_le _
  | a :: l, m, hd, h => by
    rw [List.nodup_cons] at hd
    have ha := h a List.mem_cons_self
    have h1 := len_subX l (m.erase a) hd.2 (fun x hx => by
      have hne : x ≠ a := fun e => hd.1 (e ▸ hx)
      exact (List.mem_erase_of_ne hne).2 (h x (List.mem_cons_of_mem _ hx)))
    rw [List.length_erase_of_mem ha] at h1
    have : 0 < m.length := List.length_pos_of_mem ha
    simp only [List.length_cons]
    omega
/-- more than a thousand there: more than a thousand in the web -/
theorem Bfx.many {nx : Pl → List Pl} {s : Pl} {P S W : List Pl} (h : Bfx nx s S W) (hW : Web 100000 nx s P P.length) (hl : 1000 < S.length) : 1000 < P.length := by
  refine Classical.byContradiction fun hc => ?_
  have hsP : s ∈ P := by
    obtain ⟨l, rfl⟩ := web_head hW
    exact List.mem_cons_self
  have := len_subX S P h.nodup (fun p hp => h.all (fun p => p ∈ P) hsP (fun p hp q hq => web_shut hW (by omega) hp hq) p (.inl hp))
  omega
/-- all there, and no more than a thousand: just the web's -/
theorem Bfx.fin {nx : Pl → List Pl} {s : Pl} {P S : List Pl} (h : Bfx nx s S []) (hW : Web 100000 nx s P P.length) (hl : S.length ≤ 1000) : (∀ p, p ∈ P ↔ p ∈ S) ∧ S.length = P.length := by
  have hs : s ∈ S := by
    rcases h.start with h1 | h1
    · exact h1
    · cases h1
  have hc : ∀ p ∈ S, ∀ q ∈ nx p, q ∈ S := fun p hp q hq => by
    rcases h.closed p hp q hq with h1 | h1
    · exact h1
    · cases h1
  have key : ∀ i, i < P.length → P.getD i s ∈ S := by
    intro i
    induction i using Nat.strongRecOn with
    | ind i ih =>
      intro hi
      by_cases h0 : i = 0
      · subst h0
        obtain ⟨l, rfl⟩ := web_head hW
        simpa using hs
      · obtain ⟨j, hj, hx⟩ := hW.from' i (by omega) hi
        exact hc _ (ih j hj (by omega)) _ hx
  have hall : ∀ p ∈ P, p ∈ S := by
    intro p hp
    obtain ⟨i, hi, rfl⟩ := List.mem_iff_getElem.1 hp
    have := key i hi
    simpa [List.getD, hi] using this
  have hPl := len_subX P S hW.nodup hall
  have hsP : s ∈ P := by
    obtain ⟨l, rfl⟩ := web_head hW
    exact List.mem_cons_self
  have hsub : ∀ p ∈ S, p ∈ P := fun p hp => h.all (fun p => p ∈ P) hsP (fun p hp q hq => web_shut hW (by omega) hp hq) p (.inl hp)
  have := len_subX S P h.nodup hsub
  exact ⟨fun p => ⟨hall p, hsub p⟩, by omega⟩
end Bw
end Go.Proofs.YtapjiopnjfldhaaDoor
namespace Go.Proofs.YtapjiopnjfldhaaDoor
namespace Bw
def ltP (p q : Pl) : Prop := p.1 < q.1 ∨ (p.1 = q.1 ∧ p.2 < q.2)
theorem ltP_irr (p : Pl) : ¬ ltP p p := by unfold ltP; omega
theorem ltP_asym {p q : Pl} (h : ltP p q) : ¬ ltP q p := by unfold ltP at *; omega
theorem ltP_tot {p q : Pl} (h : ¬ ltP q p) (hne : p ≠ q) : ltP p q := by
  unfold ltP at *
  have : ¬ (p.1 = q.1 ∧ p.2 = q.2) := fun e => hne (Prod.ext e.1 e.2)
  omega
theorem sorted_eq : ∀ (l l' : List Pl), l.Perm l' → l.Pairwise ltP → l'.Pairwise ltP → l = l'
  | [], l', hp, _, _ => (List.nil_perm.1 hp).symm
  | a :: l, [], hp, _, _ => absurd hp.length_eq (by simp)
  | a :: l, b :: l', hp, h, h' => by
    rw [List.pairwise_cons] at h h'
    have e : a = b := by
      have h1 : a ∈ b :: l' := hp.mem_iff.1 List.mem_cons_self
      have h2 : b ∈ a :: l := hp.mem_iff.2 List.mem_cons_self
      rcases List.mem_cons.1 h1 with e1 | h1
      · exact e1
      · rcases List.mem_cons.1 h2 with e2 | h2
        · exact e2.symm
        · exact absurd (h.1 b h2) (ltP_asym (h'.1 a h1))
    subst e
    rw [sorted_eq l l' ((List.perm_cons a).1 hp) h.2 h'.2]
theorem sorted_nodup {l : List Pl} (h : l.Pairwise ltP) : l.Nodup := by
  refine List.Pairwise.imp ?_ h
  intro a b hab e
  subst e
  exact ltP_irr _ hab
theorem count_one {l : List Pl} (h : l.Nodup) {p : Pl} (hp : p ∈ l) : l.count p = 1 := by
  have h1 := List.nodup_iff_count.1 h p
  have h2 := List.count_pos_iff.2 hp
  omega
theorem sorted_of {l : List Pl} (hn : l.Nodup) (hs : l.Pairwise fun u v => ¬ ltP v u) : l.Pairwise ltP := by
  have := hs.and hn
  exact this.imp fun hab => ltP_tot hab.1 hab.2
theorem sorted_mem {l l' : List Pl} (h : l.Pairwise ltP) (h' : l'.Pairwise ltP) (hm : ∀ p, p ∈ l ↔ p ∈ l') : l = l' := by
  refine sorted_eq l l' ?_ h h'
  rw [List.perm_iff_count]
  intro p
  by_cases hp : p ∈ l
  · have h1 := count_one (sorted_nodup h) hp
    have h2 := count_one (sorted_nodup h') ((hm p).1 hp)
    rw [h1, h2]
  · rw [List.count_eq_zero_of_not_mem hp, List.count_eq_zero_of_not_mem (fun h2 => hp ((hm p).2 h2))]
def busL (ids : Nat → List Int) (bs : List Nat) : List Pl := bs.flatMap fun b => (ids b).map fun i => ((b : Int), i)
theorem busL_mem {ids : Nat → List Int} {bs : List Nat} {p : Pl} : p ∈ busL ids bs ↔ ∃ b ∈ bs, p.1 = (b : Int) ∧ p.2 ∈ ids b := by
  unfold busL
  rw [List.mem_flatMap]
  refine ⟨?_, ?_⟩
  · rintro ⟨b, hb, hp⟩
    obtain ⟨i, hi, rfl⟩ := List.mem_map.1 hp
    exact ⟨b, hb, rfl, hi⟩
  · rintro ⟨b, hb, h1, h2⟩
    exact ⟨b, hb, List.mem_map.2 ⟨p.2, h2, Prod.ext h1.symm rfl⟩⟩
theorem busL_sorted (ids : Nat → List Int) : ∀ (bs : List Nat), bs.Pairwise (· < ·) → (∀ b ∈ bs, (ids b).Pairwise (· < ·)) → (busL ids bs).Pairwise ltP
  | [], _, _ => List.Pairwise.nil
  | b :: bs, h, hs => by
    rw [List.pairwise_cons] at h
    have e : busL ids (b :: bs) = (ids b).map (fun i => ((b : Int), i)) ++ busL ids bs := by simp [busL]
    rw [e, List.pairwise_append]
    refine ⟨?_, busL_sorted ids bs h.2 (fun x hx => hs x (List.mem_cons_of_mem _ hx)), ?_⟩
    · rw [List.pairwise_map]
      exact (hs b List.mem_cons_self).imp fun hab => .inr ⟨rfl, hab⟩
    · intro p hp q hq
      obtain ⟨i, -, rfl⟩ := List.mem_map.1 hp
      obtain ⟨c, hc, h1, -⟩ := busL_mem.1 hq
      refine .inl ?_
      rw [h1]
      have := h.1 c hc
      show (b : Int) < (c : Int)
      omega
/-- numbers in order, none twice, rise -/
theorem rise {l : List Int} (hs : l.Pairwise (· ≤ ·)) (hn : l.Nodup) : l.Pairwise (· < ·) := by
  have := hs.and hn
  refine this.imp fun hab => ?_
  have := hab.1
  have := hab.2
  omega
/-- the one row of them -/
theorem spread_order {L : List Pl} (hn : L.Nodup) (hs : L.Pairwise fun u v => ¬ ltP v u) (hb : ∀ p ∈ L, 0 ≤ p.1 ∧ p.1 ≤ 3) (ids : Nat → List Int) (hi : ∀ b, b < 4 → (ids b).Pairwise (· ≤ ·) ∧ (ids b).Nodup ∧ ∀ i, i ∈ ids b ↔ ((b : Int), i) ∈ L) : L = busL ids [0, 1, 2, 3] := by
  have h4 : ∀ b ∈ [0, 1, 2, 3], b < 4 := by decide
  refine sorted_mem (sorted_of hn hs) (busL_sorted ids _ (by decide) fun b hb => rise (hi b (h4 b hb)).1 (hi b (h4 b hb)).2.1) fun p => ?_
  rw [busL_mem]
  refine ⟨fun hp => ?_, ?_⟩
  · have h1 := hb p hp
    have e : p.1 = ((p.1.toNat : Nat) : Int) := by omega
    have hlt : p.1.toNat < 4 := by omega
    refine ⟨p.1.toNat, ?_, e, ((hi _ hlt).2.2 p.2).2 ?_⟩
    · generalize p.1.toNat = b at hlt
      match b, hlt with
      | 0, _ => decide
      | 1, _ => decide
      | 2, _ => decide
      | 3, _ => decide
    · rw [← e]; exact hp
  · rintro ⟨b, hbm, h1, h2⟩
    have := ((hi b (h4 b hbm)).2.2 p.2).1 h2
    rw [← h1] at this
    exact this
end Bw
end Go.Proofs.YtapjiopnjfldhaaDoor
namespace Go.Proofs.YtapjiopnjfldhaaDoor
open Go.ChangeShapes Go.WideShapes Go.ChangeAt Go.RowKit
namespace Bw
open Go.Sort
set_option linter.unusedVariables false
theorem len64_0 (w : World) : Calls Tryd.prog 78 #[.int .u64 0] w fun e w' => e = .returned (.int .i64 0) ∧ w' = w := by
  go_enter Tryd.func78, Tryd.ntmps78
  go_wp2_with fail
  go_ret
  refine ⟨?_, rfl⟩
  congr 1
  simp
  kernel_rfl
theorem len_0 (w : World) : Calls Tryd.prog 51 #[.int .u64 0] w fun e w' => e = .returned (.int .i64 0) ∧ w' = w := by
  go_enter Tryd.func51, Tryd.ntmps51
  go_wp2_with (first | (go_at_call 78; refine (len64_0 _).mono ?_; rintro e w' ⟨rfl, rfl⟩))
  go_ret
  exact ⟨rfl, rfl⟩
theorem insI_nil (p : Option Addr) (cap : Nat) (w : World) :
    Calls Tryd.prog 68 #[.slice p 0 cap, .int .i64 0, .int .i64 0] w fun e w' => e = .returned (.tuple #[]) ∧ w' = w := by
  go_enter Tryd.func68, Tryd.ntmps68
  go_wp2
  refine wp_loop_rounds 1 ?_
  rw [rounds_succ]
  go_wp2
  go_end0
  exact ⟨rfl, rfl⟩
set_option maxRecDepth 100000 in
theorem pdqI_nil (p : Option Addr) (cap : Nat) (w : World) :
    Calls Tryd.prog 50 #[.slice p 0 cap, .int .i64 0, .int .i64 0, .int .i64 0] w fun e w' => e = .returned (.tuple #[]) ∧ w' = w := by
  go_enter Tryd.func50, Tryd.ntmps50
  go_wp2
  refine wp_loop_rounds 1 ?_
  rw [rounds_succ]
  go_wp2_with (first | (go_at_call 68; refine (insI_nil p cap _).mono ?_; rintro e w' ⟨rfl, rfl⟩))
  refine bodyPost_ret (results_none rfl _ _ _) rfl ?_
  exact ⟨rfl, rfl⟩
set_option maxRecDepth 100000 in
theorem sortI_nil (p : Option Addr) (cap : Nat) (w : World) :
    Calls Tryd.prog 22 #[.slice p 0 cap] w fun e w' => e = .returned (.tuple #[]) ∧ w' = w := by
  go_enter Tryd.func22, Tryd.ntmps22
  go_wp2_with (first
    | (go_at_call 51; refine (len_0 _).mono ?_; rintro e w' ⟨rfl, rfl⟩)
    | (go_at_call 50; refine (pdqI_nil p cap _).mono ?_; rintro e w' ⟨rfl, rfl⟩))
  go_end0
  exact ⟨rfl, rfl⟩
theorem below_own {w w' : World} {base : Nat} {v : Value} {n : Nat} {xs : List Value} {T : TypeId} {s : Nat} (h : w.ownsRow base T s v n xs) (hg : w.grownBy w' v.ownBlock) (hb : base ≤ w.heap.size) : Below base w w' := Below.grown (Below.refl _ _) hg hb (fun q hq => (h.lt q hq).1)
/-- 'slices.Sort(ids)' -/
theorem sortI_any (base : Nat) (v : Value) (I : List Int) (w : World) (h : w.ownsRow base 3 1 v I.length (numC I)) (hb : base ≤ w.heap.size) (hn : I.length ≤ 100000) :
    Calls Tryd.prog 22 #[v] w fun e w' => e = .returned (.tuple #[]) ∧ (∃ I' : List Int, I'.Perm I ∧ I'.Pairwise (· ≤ ·) ∧ w'.ownsRow base 3 1 v I'.length (numC I')) ∧ Below base w w' := by
  have h' := h
  rcases h'.2 with ⟨hv, h0⟩ | ⟨g, cap, cur, hv, hbg, hh, h1, h2, h3, h4⟩
  · have hI : I = [] := List.eq_nil_of_length_eq_zero h0
    subst hI
    subst hv
    refine (sortI_nil none 0 w).mono ?_
    rintro e w' ⟨rfl, rfl⟩
    exact ⟨rfl, ⟨[], List.Perm.refl _, List.Pairwise.nil, h⟩, Below.refl _ _⟩
  · subst hv
    have hH : Holds (Value.int .i64) w g 0 I.toArray := holds_of_blockI hh (by simpa [numC] using h4)
    refine (Any.slices_Sort_int Tryd.laysSrtI g 0 cap I w hH (Array.getElem?_eq_some_iff.1 hh).1 (by omega)).mono ?_
    rintro e w' ⟨rfl, m, os, rfl⟩
    have hp : (I.mergeSort fun x y => decide (x ≤ y)).Perm I := List.mergeSort_perm _ _
    have hl := hp.length_eq
    refine ⟨rfl, ⟨_, hp, ?_, ?_⟩, ?_⟩
    · have := List.pairwise_mergeSort (le := fun x y : Int => decide (x ≤ y)) (by intro a b c; simp; omega) (by intro a b; simp; omega) I
      exact this.imp fun hab => of_decide_eq_true hab
    · have := ownsRow_sortedI (n := m) (os := os) (ts := I.mergeSort fun x y => decide (x ≤ y)) hl hbg hh h1 h2 h3
      rw [hl]
      exact this
    · exact Below.grown (Below.refl _ _) (grownBy_sortedI _) hb (fun q hq => by cases hq; exact hbg)
end Bw
end Go.Proofs.YtapjiopnjfldhaaDoor
namespace Go.Proofs.YtapjiopnjfldhaaDoor
open Go.ChangeShapes Go.WideShapes Go.ChangeAt Go.RowKit
namespace Bw
set_option linter.unusedVariables false
theorem lines_same {S P X : List Pl} {s : Pl} {P' Q : List LnR} {lo fa re : Bool} {sz : Int} {len : Nat} (h2 : (P'.map LnR.k).Perm ((P.drop 1).map (plK lo fa re sz len))) (h3 : P'.Pairwise fun u v => ¬ (v.bs < u.bs ∨ (v.bs = u.bs ∧ v.id < u.id))) (hn : P.Nodup) (hh : ∃ l, P = s :: l) (hPS : ∀ p, p ∈ P ↔ p ∈ S) (hok : ∀ p ∈ S, okQ p)
    (hX : X.Pairwise ltP) (hXm : ∀ p, p ∈ X ↔ p ∈ S ∧ p ≠ s ∧ p.1 < ((4 : Nat) : Int)) (hQ : Q.map LnR.k = X.map (plK lo fa re sz len)) : P'.map LnR.k = Q.map LnR.k := by
  obtain ⟨l, rfl⟩ := hh
  simp only [List.drop_succ_cons, List.drop_zero] at h2
  rw [List.nodup_cons] at hn
  have hk : ∀ v ∈ P', v.k = plK lo fa re sz len (v.bs, v.id) := by
    intro v hv
    obtain ⟨p, -, hp⟩ := List.mem_map.1 (h2.mem_iff.1 (List.mem_map_of_mem (f := LnR.k) hv))
    rw [← hp]
    unfold plK LnR.k at hp
    simp only [Prod.mk.injEq] at hp
    rw [← hp.2.1, ← hp.2.2.1]
  have hL : P'.map LnR.k = (P'.map fun v => (v.bs, v.id)).map (plK lo fa re sz len) := by
    rw [List.map_map]
    exact List.map_congr_left (fun v hv => hk v hv)
  have hperm : (P'.map fun v => (v.bs, v.id)).Perm l := by
    have h4 := h2.map (fun t : Int × Int × Int × Bool × Bool × Bool × Int × Nat => (t.2.1, t.2.2.1))
    rw [List.map_map, List.map_map] at h4
    have e1 : ((fun t : Int × Int × Int × Bool × Bool × Bool × Int × Nat => (t.2.1, t.2.2.1)) ∘ plK lo fa re sz len) = id := by funext p; rfl
    rw [e1, List.map_id] at h4
    exact h4
  have hsorted : (P'.map fun v => (v.bs, v.id)).Pairwise ltP := by
    refine sorted_of (hperm.nodup_iff.2 hn.2) ?_
    rw [List.pairwise_map]
    exact h3.imp fun hab => hab
  have e : (P'.map fun v => (v.bs, v.id)) = X := by
    refine sorted_mem hsorted hX fun p => ?_
    rw [hperm.mem_iff, hXm, ← hPS p]
    refine ⟨fun hp => ⟨List.mem_cons_of_mem _ hp, fun e => hn.1 (e ▸ hp), ?_⟩, fun hp => ?_⟩
    · have := (hok p ((hPS p).1 (List.mem_cons_of_mem _ hp))).1.2
      omega
    · rcases List.mem_cons.1 hp.1 with h5 | h5
      · exact absurd h5 hp.2.1
      · exact h5
  rw [hL, e, hQ]
/-- one bus more -/
theorem bus_step {X S : List Pl} {s : Pl} {b : Nat} {I : List Int} (hX : X.Pairwise ltP) (hXm : ∀ p, p ∈ X ↔ p ∈ S ∧ p ≠ s ∧ p.1 < (b : Int)) (hI : I.Pairwise (· ≤ ·)) (hn : I.Nodup) (hIm : ∀ i, i ∈ I ↔ ((b : Int), i) ∈ S ∧ ((b : Int), i) ≠ s) :
    (X ++ I.map fun i => ((b : Int), i)).Pairwise ltP ∧ ∀ p, p ∈ X ++ (I.map fun i => ((b : Int), i)) ↔ p ∈ S ∧ p ≠ s ∧ p.1 < ((b + 1 : Nat) : Int) := by
  refine ⟨?_, fun p => ?_⟩
  · rw [List.pairwise_append]
    refine ⟨hX, ?_, fun p hp q hq => ?_⟩
    · rw [List.pairwise_map]
      exact (rise hI hn).imp fun hab => .inr ⟨rfl, hab⟩
    · obtain ⟨i, -, rfl⟩ := List.mem_map.1 hq
      exact .inl ((hXm p).1 hp).2.2
  · rw [List.mem_append, hXm, List.mem_map]
    refine ⟨?_, fun hp => ?_⟩
    · rintro (hp | ⟨i, hi, rfl⟩)
      · exact ⟨hp.1, hp.2.1, by have := hp.2.2; omega⟩
      · exact ⟨((hIm i).1 hi).1, ((hIm i).1 hi).2, by simp only; omega⟩
    · by_cases hlt : p.1 < (b : Int)
      · exact .inl ⟨hp.1, hp.2.1, hlt⟩
      · have e : p = ((b : Int), p.2) := Prod.ext (by have := hp.2.2; simp only; omega) rfl
        refine .inr ⟨p.2, (hIm p.2).2 ⟨?_, ?_⟩, e.symm⟩
        · rw [← e]; exact hp.1
        · rw [← e]; exact hp.2.1
theorem ids_len {S : List Pl} {b : Int} {I : List Int} (hn : I.Nodup) (h : ∀ i ∈ I, (b, i) ∈ S) : I.length ≤ S.length := by
  have h1 := len_subX (I.map fun i => (b, i)) S (by
    rw [List.nodup_iff_pairwise_ne, List.pairwise_map]
    exact (List.nodup_iff_pairwise_ne.1 hn).imp fun hab e => hab (Prod.ext_iff.1 e).2) (fun p hp => by
    obtain ⟨i, hi, rfl⟩ := List.mem_map.1 hp
    exact h i hi)
  rwa [List.length_map] at h1
end Bw
end Go.Proofs.YtapjiopnjfldhaaDoor
