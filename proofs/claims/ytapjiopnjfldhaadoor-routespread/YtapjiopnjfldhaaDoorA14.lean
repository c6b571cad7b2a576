/- The variables of route.webOf side by side; none walks a function. -/
import Derived.Test.YtapjiopnjfldhaaDoorRtNumOf
namespace Go.Proofs.YtapjiopnjfldhaaDoor
open Go.ChangeShapes Go.WideShapes Go.ChangeAt Go.RowKit
namespace Bw
open Bm
set_option linter.unusedVariables false
theorem owns_at {w w' : World} {base : Nat} {e : TypeId} {size : Nat} {v : Value} {n : Nat} {xs : List Value} (h : w.ownsRow base e size v n xs) (hb : ∀ k, v.ownBlock = some k → w'.heap[k]? = w.heap[k]?) : w'.ownsRow base e size v n xs := by
  obtain ⟨h1, h2⟩ := h
  refine ⟨h1, ?_⟩
  rcases h2 with h2 | ⟨g, cap, cur, hv, hgb, hh, r⟩
  · exact Or.inl h2
  · subst hv
    refine Or.inr ⟨g, cap, cur, rfl, hgb, ?_, r⟩
    rw [hb g rfl]
    exact hh
theorem nums_at {w w' : World} {a : Option Addr} {n c : Nat} {l : List Int} (h : IsNums w a n c l) (hb : ∀ x, a = some x → w'.heap[x.block]? = w.heap[x.block]?) : IsNums w' a n c l := by
  refine ⟨h.len, h.le, h.max, h.none, fun x hx i hi => ?_⟩
  have hv := h.cell x hx i hi
  have hblk : (x.add i).block = x.block := by unfold Addr.add; split <;> rfl
  unfold World.cell? at hv ⊢
  rw [hblk] at hv ⊢
  rw [hb x hx]
  exact hv
/-- a row of rows of numbers, each of them, and the row itself, apart from these rows -/
structure NxS (w : World) (base : Nat) (av : List Value) (vN : Value) (L : List (List Int)) : Prop where
  row : ∃ S : List Value, w.ownsRow base 23 1 vN L.length S ∧ ∀ i, i < L.length → ∃ a n c, S[i]? = some (.slice a n c) ∧ IsNums w a n c (L.getD i []) ∧ ∀ x, a = some x → base ≤ x.block ∧ x.block < w.heap.size ∧ vN.ownBlock ≠ some x.block ∧ ∀ u ∈ av, u.ownBlock ≠ some x.block
  apart : ∀ u ∈ av, ∀ k, vN.ownBlock = some k → u.ownBlock ≠ some k
theorem NxS.nil (w : World) (base : Nat) (av : List Value) : NxS w base av (.slice none 0 0) [] :=
  ⟨⟨[], World.ownsRow_nil _ _ _ _, fun i hi => absurd hi (Nat.not_lt_zero _)⟩, fun u _ k hk => by cases hk⟩
/-- memory turns beside it, and others come to be avoided -/
theorem NxS.moved {w w' : World} {base : Nat} {av av' : List Value} {vN : Value} {L : List (List Int)} (h : NxS w base av vN L) (hs : w.heap.size ≤ w'.heap.size)
    (hb : ∀ k, base ≤ k → k < w.heap.size → (vN.ownBlock = some k ∨ ∀ u ∈ av, u.ownBlock ≠ some k) → (∀ u ∈ av, u.ownBlock ≠ some k) → w'.heap[k]? = w.heap[k]?)
    (ha : ∀ u ∈ av', ∀ k, k < w.heap.size → (∀ u ∈ av, u.ownBlock ≠ some k) → base ≤ k → u.ownBlock ≠ some k) : NxS w' base av' vN L := by
  obtain ⟨S, hrow, hall⟩ := h.row
  refine ⟨⟨S, owns_at hrow (fun k hk => ?_), fun i hi => ?_⟩, fun u hu k hk => ?_⟩
  · have h1 := own_ge hrow hk
    exact hb k h1.1 h1.2 (.inl hk) (fun u hu => h.apart u hu k hk)
  · obtain ⟨a, n, c, h1, h2, h3⟩ := hall i hi
    refine ⟨a, n, c, h1, nums_at h2 (fun x hx => ?_), fun x hx => ?_⟩
    · obtain ⟨e1, e2, e3, e4⟩ := h3 x hx
      exact hb x.block e1 e2 (.inr e4) e4
    · obtain ⟨e1, e2, e3, e4⟩ := h3 x hx
      exact ⟨e1, Nat.lt_of_lt_of_le e2 hs, e3, fun u hu => ha u hu _ e2 e4 e1⟩
  · have h1 := own_ge hrow hk
    exact ha u hu k h1.2 (fun u hu => h.apart u hu k hk) h1.1
theorem NxS.kept {w w' : World} {base : Nat} {av : List Value} {vN : Value} {L : List (List Int)} (h : NxS w base av vN L) (hb : Below w.heap.size w w') : NxS w' base av vN L :=
  h.moved hb.size (fun k _ hk _ _ => hb.block k hk) (fun u hu k _ h1 _ => h1 u hu)
/-- behind a place more -/
theorem NxS.num {w w' : World} {base gw bm : Nat} {vP vP' vX vN : Value} {L : List (List Int)} (h : NxS w base [vP, vX] vN L) (hn : NumT gw bm vP vP' w w') (hg : gw < base) (hm : bm < base) : NxS w' base [vP', vX] vN L := by
  refine h.moved hn.size (fun k h1 h2 _ h3 => hn.block k h2 (by omega) (by omega) (h3 vP (by simp))) (fun u hu k h1 h2 _ => ?_)
  rcases List.mem_cons.1 hu with rfl | hu
  · rcases hn.own with h4 | ⟨q, h4, h5⟩
    · rw [h4]; exact h2 vP (by simp)
    · rw [h4]; intro e; have := Option.some.inj e; omega
  · rw [List.mem_singleton] at hu; subst hu; exact h2 u (by simp)
/-- behind a number more in the row that is under way -/
theorem NxS.app {w w' : World} {base : Nat} {vP vX vX' vN : Value} {L : List (List Int)} (h : NxS w base [vP, vX] vN L) (hn : w.grownBy w' vX.ownBlock) (ho : vX'.ownBlock = vX.ownBlock ∨ vX'.ownBlock = some w.heap.size) : NxS w' base [vP, vX'] vN L := by
  refine h.moved hn.size (fun k h1 h2 _ h3 => grown_at hn h2 (h3 vX (by simp))) (fun u hu k h1 h2 _ => ?_)
  rcases List.mem_cons.1 hu with rfl | hu
  · exact h2 u (by simp)
  · rw [List.mem_singleton] at hu; subst hu
    rcases ho with h4 | h4
    · rw [h4]; exact h2 vX (by simp)
    · rw [h4]; intro e; have := Option.some.inj e; omega
/-- with the row that was under way -/
theorem NxS.add {w w' : World} {base : Nat} {vP vN vN' : Value} {aX : Option Addr} {nX cX : Nat} {L : List (List Int)} {X : List Int} (h : NxS w base [vP, .slice aX nX cX] vN L) (hX : w.ownsRow base 3 1 (.slice aX nX cX) nX (numC X)) (hp : ∀ k, (Value.slice aX nX cX).ownBlock = some k → vP.ownBlock ≠ some k) (hPl : ∀ k, vP.ownBlock = some k → k < w.heap.size)
    (hl : X.length = nX) (hrow : ∀ S : List Value, w.ownsRow base 23 1 vN L.length S → w'.ownsRow base 23 1 vN' (L.length + 1) (S ++ [.slice aX nX cX])) (hg : w.grownBy w' vN.ownBlock) (ho : vN'.ownBlock = vN.ownBlock ∨ ∃ k, vN'.ownBlock = some k ∧ w.heap.size ≤ k) : NxS w' base [vP] vN' (L ++ [X]) := by
  subst hl
  obtain ⟨S, hr, hall⟩ := h.row
  have hS : S.length = L.length := by have := hr.1; simpa using this
  have hown : ∀ k, k < w.heap.size → vN.ownBlock ≠ some k → vN'.ownBlock ≠ some k := by
    intro k hk hne
    rcases ho with h4 | ⟨q, h4, h5⟩
    · rw [h4]; exact hne
    · rw [h4]; intro e; have := Option.some.inj e; omega
  refine ⟨⟨S ++ [.slice aX X.length cX], by rw [List.length_append]; exact hrow S hr, fun i hi => ?_⟩, fun u hu k hk => ?_⟩
  · by_cases hi2 : i < L.length
    · obtain ⟨a, n, c, h1, h2, h3⟩ := hall i hi2
      refine ⟨a, n, c, by rw [List.getElem?_append_left (by omega)]; exact h1, ?_, fun x hx => ?_⟩
      · have e : (L ++ [X]).getD i [] = L.getD i [] := by simp [List.getD, List.getElem?_append_left hi2]
        rw [e]
        exact nums_at h2 (fun x hx => grown_at hg (h3 x hx).2.1 (h3 x hx).2.2.1)
      · obtain ⟨e1, e2, e3, e4⟩ := h3 x hx
        exact ⟨e1, Nat.lt_of_lt_of_le e2 hg.size, hown _ e2 e3, fun u hu => by rw [List.mem_singleton] at hu; subst hu; exact e4 u (by simp)⟩
    · have hi3 : i = L.length := by simp at hi; omega
      subst hi3
      obtain ⟨a', c', hv, hN⟩ := nums_own (l := X) hX
      cases hv
      have hne : ∀ x, aX = some x → vN.ownBlock ≠ some x.block ∧ base ≤ x.block ∧ x.block < w.heap.size ∧ vP.ownBlock ≠ some x.block := by
        intro x hx
        subst hx
        have hb : (Value.slice (some x) X.length cX).ownBlock = some x.block := rfl
        have h1 := own_ge hX hb
        refine ⟨fun e => h.apart (.slice (some x) X.length cX) (by simp) x.block e hb, h1.1, h1.2, hp _ hb⟩
      refine ⟨aX, X.length, cX, by rw [← hS]; simp, ?_, fun x hx => ?_⟩
      · have e : (L ++ [X]).getD L.length [] = X := by simp [List.getD]
        rw [e]
        exact nums_at hN (fun x hx => grown_at hg (hne x hx).2.2.1 (hne x hx).1)
      · obtain ⟨e1, e2, e3, e4⟩ := hne x hx
        exact ⟨e2, Nat.lt_of_lt_of_le e3 hg.size, hown _ e3 e1, fun u hu => by rw [List.mem_singleton] at hu; subst hu; exact e4⟩
  · rw [List.mem_singleton] at hu
    subst hu
    rcases ho with h4 | ⟨q, h4, h5⟩
    · rw [h4] at hk; exact h.apart u (by simp) k hk
    · rw [h4] at hk
      intro e
      have h6 := hPl k e
      have h7 := Option.some.inj hk
      omega
/-- all rows of numbers so far -/
def nxL (nx : Pl → List Pl) (s : Pl) (P : List Pl) (k : Nat) : List (List Int) := (List.range k).map fun i => idxL P (nx (P.getD i s))
theorem nxL_grw {F : Nat} {nx : Pl → List Pl} {s : Pl} {P P' : List Pl} {k : Nat} (h : Web F nx s P k) (hg : Grw F P P') : nxL nx s P' k = nxL nx s P k := by
  unfold nxL
  refine List.map_congr_left fun i hi => ?_
  rw [List.mem_range] at hi
  rw [hg.get (Nat.lt_of_lt_of_le hi h.le), idxL_grw (h.shut i hi) hg]
theorem nxL_add (nx : Pl → List Pl) (s : Pl) (P : List Pl) (k : Nat) : nxL nx s P (k + 1) = nxL nx s P k ++ [idxL P (nx (P.getD k s))] := by
  unfold nxL
  rw [List.range_succ, List.map_append]
  rfl
theorem Web.step {F : Nat} {nx : Pl → List Pl} {s : Pl} {P : List Pl} {k : Nat} (h : Web F nx s P k) (hk : k < P.length) (hs : Shut F P (nx (P.getD k s))) : Web F nx s P (k + 1) :=
  ⟨h.head, h.nodup, h.len, hk, h.ok, fun i hi => by
    by_cases e : i < k
    · exact h.shut i e
    · have : i = k := by omega
      subst this
      exact hs, h.from'⟩
end Bw
end Go.Proofs.YtapjiopnjfldhaaDoor
namespace Go.Proofs.YtapjiopnjfldhaaDoor
open Go.ChangeShapes Go.WideShapes Go.ChangeAt Go.RowKit
namespace Bw
open Bm
set_option linter.unusedVariables false
theorem frEn_idW {id : Int} {lo fa re : Bool} {sz : Int} {len : Nat} (h : frEn id lo fa re sz len = 0) : 0 ≤ id ∧ id ≤ topN lo ∧ id ≤ 536870911 := by
  unfold frEn at h
  split at h
  · cases h
  · rename_i h1
    have e : topI lo = (topN lo : Int) := by unfold topI topN; cases lo <;> rfl
    have e2 : topN lo ≤ 536870911 := by unfold topN; cases lo <;> decide
    omega
def wb5 (w : World) (id : Int) (lo fa re : Bool) (sz : Int) (fa0 : Option Addr) (len cap : Nat) : World :=
  ((((w.alloc (frameC id lo fa re sz fa0 len cap)).alloc (.cells #[.slice none 0 0, .slice none 0 0] 88)).alloc (.cells #[.slice none 0 0, .slice none 0 0] 88)).alloc (.map #[] 0)).alloc (.cells #[.map (some (w.heap.size + 3))] 104)
theorem wb5_at (w : World) (id : Int) (lo fa re : Bool) (sz : Int) (fa0 : Option Addr) (len cap : Nat) :
    WebS 100000 (wb5 w id lo fa re sz fa0 len cap) (w.heap.size + 5) (w.heap.size + 2) (w.heap.size + 4) (w.heap.size + 3) (.slice none 0 0) (.slice none 0 0) [] (.map []) ∧ Row6 (wb5 w id lo fa re sz fa0 len cap) w.heap.size id lo fa re sz fa0 len cap ∧ (wb5 w id lo fa re sz fa0 len cap).heap[w.heap.size + 1]? = some (.cells #[.slice none 0 0, .slice none 0 0] 88 (0, 0)) ∧ Below w.heap.size w (wb5 w id lo fa re sz fa0 len cap) ∧ (wb5 w id lo fa re sz fa0 len cap).heap.size = w.heap.size + 5 := by
  have hs : (wb5 w id lo fa re sz fa0 len cap).heap.size = w.heap.size + 5 := by simp [wb5]
  have b1 := awB w (frameC id lo fa re sz fa0 len cap)
  have n1 := Row6.new w id lo fa re sz fa0 len cap
  obtain ⟨W1, hW1⟩ : ∃ W1, W1 = w.alloc (frameC id lo fa re sz fa0 len cap) := ⟨_, rfl⟩
  have s1 : W1.heap.size = w.heap.size + 1 := by rw [hW1]; simp
  rw [← hW1] at b1 n1
  have b2 := awB W1 (.cells #[.slice none 0 0, .slice none 0 0] 88)
  have n2 := heap_alloc_new W1 (.cells #[.slice none 0 0, .slice none 0 0] 88)
  obtain ⟨W2, hW2⟩ : ∃ W2, W2 = W1.alloc (.cells #[.slice none 0 0, .slice none 0 0] 88) := ⟨_, rfl⟩
  have s2 : W2.heap.size = w.heap.size + 2 := by rw [hW2]; simp [s1]
  rw [← hW2, s1] at n2
  rw [← hW2] at b2
  have b3 := awB W2 (.cells #[.slice none 0 0, .slice none 0 0] 88)
  have n3 := heap_alloc_new W2 (.cells #[.slice none 0 0, .slice none 0 0] 88)
  obtain ⟨W3, hW3⟩ : ∃ W3, W3 = W2.alloc (.cells #[.slice none 0 0, .slice none 0 0] 88) := ⟨_, rfl⟩
  have s3 : W3.heap.size = w.heap.size + 3 := by rw [hW3]; simp [s2]
  rw [← hW3, s2] at n3
  rw [← hW3] at b3
  have b4 := awB W3 (.map #[] 0)
  have n4 := World.ownsMap_made W3 Tryd.prog 106 RVp
  obtain ⟨W4, hW4⟩ : ∃ W4, W4 = W3.alloc (.map #[] 0) := ⟨_, rfl⟩
  have s4 : W4.heap.size = w.heap.size + 4 := by rw [hW4]; simp [s3]
  rw [← hW4, s3] at n4
  rw [← hW4] at b4
  have b5 := awB W4 (.cells #[.map (some (w.heap.size + 3))] 104)
  have n5 := heap_alloc_new W4 (.cells #[.map (some (w.heap.size + 3))] 104)
  have e5 : wb5 w id lo fa re sz fa0 len cap = W4.alloc (.cells #[.map (some (w.heap.size + 3))] 104) := by unfold wb5; rw [hW4, hW3, hW2, hW1]
  rw [← e5, s4] at n5
  rw [← e5] at b5
  have b25 := bl2 b3 (bl2 b4 b5)
  refine ⟨⟨?_, n5, ?_, Numb.nil, World.ownsRow_nil _ _ _ _, (fun p hp => by cases hp), Nat.zero_le _, by omega, by omega, by omega, by omega, by omega, by omega, by omega⟩, n1.kept (bl2 b2 b25), ?_, bl2 b1 (bl2 b2 b25), hs⟩
  · rw [(bl2 b4 b5).block _ (by omega)]; exact n3
  · exact World.ownsMap.kept n4 (row := none) ⟨b5.os, b5.tape, b5.output, b5.size, fun k hk _ => b5.block k hk⟩ (by simp)
  · rw [b25.block _ (by omega)]; exact n2
theorem NumT.below {B : Nat} {gw bm : Nat} {vP vP' : Value} {w a b : World} (h : Below B w a) (ht : NumT gw bm vP vP' a b) (hg : B ≤ gw) (hm : B ≤ bm) (hP : ∀ k, vP.ownBlock = some k → B ≤ k) (hB : B ≤ w.heap.size) : Below B w b :=
  ⟨ht.os.trans h.os, ht.tape.trans h.tape, ht.output.trans h.output, Nat.le_trans h.size ht.size, fun k hk => (ht.block k (by have := h.size; omega) (by omega) (by omega) (fun e => by have := hP k e; omega)).trans (h.block k hk)⟩
theorem WebS.moved {F : Nat} {w w' : World} {base gw gn bm : Nat} {vP vN vN' : Value} {P : List Pl} {D : DVp} (h : WebS F w base gw gn bm vP vN P D) (hs : w.heap.size ≤ w'.heap.size) (hv : w'.heap[gw]? = some (.cells #[vP, vN'] 88 (0, 0))) (hn : w'.heap[gn]? = w.heap[gn]?) (hm : w'.heap[bm]? = w.heap[bm]?) (hr : ∀ k, vP.ownBlock = some k → w'.heap[k]? = w.heap[k]?) : WebS F w' base gw gn bm vP vN' P D :=
  { h with
    var := hv
    box := hn.trans h.box
    map := by obtain ⟨es, cl, h1, h2⟩ := h.map; exact ⟨es, cl, hm.trans h1, h2⟩
    row := owns_at h.row hr
    le := Nat.le_trans h.le hs }
theorem setH {w : World} {b i : Nat} {v : Value} {k : Nat} (h : k ≠ b) : (w.setCell ⟨b, i, none⟩ v).heap[k]? = w.heap[k]? := Below.heap_setCell _ _ _ _ h
theorem setS {w : World} {b i : Nat} {v : Value} : (w.setCell ⟨b, i, none⟩ v).heap.size = w.heap.size := by simp [World.setCell]
theorem WebS.setB {F : Nat} {w : World} {base gw gn bm : Nat} {vP vN : Value} {P : List Pl} {D : DVp} (h : WebS F w base gw gn bm vP vN P D) {b i : Nat} (hb : b < base) (h1 : b ≠ gw) (h2 : b ≠ gn) (h3 : b ≠ bm) (v : Value) : WebS F (w.setCell ⟨b, i, none⟩ v) base gw gn bm vP vN P D :=
  h.moved (by rw [setS]; exact Nat.le_refl _) ((setH (fun e => h1 e.symm)).trans h.var) (setH (fun e => h2 e.symm)) (setH (fun e => h3 e.symm)) (fun k hk => setH (fun e => by have := (own_ge h.row hk).1; omega))
theorem NxS.setB {w : World} {base : Nat} {av : List Value} {vN : Value} {L : List (List Int)} (h : NxS w base av vN L) {b i : Nat} (hb : b < base) (v : Value) : NxS (w.setCell ⟨b, i, none⟩ v) base av vN L :=
  h.moved (by rw [setS]; exact Nat.le_refl _) (fun k h1 _ _ _ => setH (by omega)) (fun u hu k _ h1 _ => h1 u hu)
theorem NxS.more {w : World} {base : Nat} {vP : Value} {vN : Value} {L : List (List Int)} (h : NxS w base [vP] vN L) : NxS w base [vP, .slice none 0 0] vN L :=
  h.moved (Nat.le_refl _) (fun _ _ _ _ _ => rfl) (fun u hu k _ h1 _ => by
    rcases List.mem_cons.1 hu with rfl | hu
    · exact h1 u (by simp)
    · rw [List.mem_singleton] at hu; subst hu; intro e; cases e)
/-- a place's two cells in the row -/
theorem pl_at2 {w : World} {base : Nat} {x : Addr} {n c : Nat} {P : List Pl} (h : w.ownsRow base 106 2 (.slice (some x) n c) n (plC P)) {k : Nat} (hk : k < P.length) (z : Pl) : w.cell? (x.add (k * 2)) = some (.int .i64 (P.getD k z).1) ∧ w.cell? ⟨(x.add (k * 2)).block, (x.add (k * 2)).off + 1, none⟩ = some (.int .i64 (P.getD k z).2) := by
  rcases h.2 with ⟨h1, -⟩ | ⟨g, cap, cur, h1, -⟩
  · cases h1
  · have hx : x = ⟨g, 0, none⟩ := by cases h1; rfl
    subst hx
    have e : P.getD k z = P[k] := by simp [List.getD, hk]
    have f0 := flat_get plCl 2 (fun _ => rfl) P k 0 hk (by omega)
    have f1 := flat_get plCl 2 (fun _ => rfl) P k 1 hk (by omega)
    have c0 := h.cells (g := g) rfl (k * 2) (.int .i64 P[k].1) (by simpa [plC, plCl] using f0)
    have c1 := h.cells (g := g) rfl (k * 2 + 1) (.int .i64 P[k].2) (by simpa [plC, plCl] using f1)
    rw [e]
    simp only [Addr.add_lit, Nat.zero_add] at c0 c1 ⊢
    exact ⟨c0, c1⟩
/-- the place under way: its variable, apart from the rows -/
structure FrmS (w : World) (g : Nat) (p : Pl) (av : List Value) : Prop where
  var : w.heap[g]? = some (.cells #[.int .i64 p.1, .int .i64 p.2] 106 (0, 0))
  far : ∀ u ∈ av, u.ownBlock ≠ some g
theorem FrmS.kept {w w' : World} {g : Nat} {p : Pl} {av : List Value} (h : FrmS w g p av) (hb : Below w.heap.size w w') : FrmS w' g p av := ⟨(hb.block g (Array.getElem?_eq_some_iff.1 h.var).1).trans h.var, h.far⟩
theorem FrmS.num {w w' : World} {g gw bm : Nat} {p : Pl} {vP vP' vX vN : Value} (h : FrmS w g p [vP, vX, vN]) (hn : NumT gw bm vP vP' w w') (h1 : g ≠ gw) (h2 : g ≠ bm) : FrmS w' g p [vP', vX, vN] := by
  have hl := (Array.getElem?_eq_some_iff.1 h.var).1
  refine ⟨(hn.block g hl h1 h2 (h.far vP (by simp))).trans h.var, fun u hu => ?_⟩
  rcases List.mem_cons.1 hu with rfl | hu
  · rcases hn.own with h4 | ⟨q, h4, h5⟩
    · rw [h4]; exact h.far vP (by simp)
    · rw [h4]; intro e; have := Option.some.inj e; omega
  · exact h.far u (List.mem_cons_of_mem _ hu)
theorem FrmS.app {w w' : World} {g : Nat} {p : Pl} {vP vX vX' vN : Value} (h : FrmS w g p [vP, vX, vN]) (hn : w.grownBy w' vX.ownBlock) (ho : vX'.ownBlock = vX.ownBlock ∨ vX'.ownBlock = some w.heap.size) : FrmS w' g p [vP, vX', vN] := by
  have hl := (Array.getElem?_eq_some_iff.1 h.var).1
  refine ⟨(grown_at hn hl (h.far vX (by simp))).trans h.var, fun u hu => ?_⟩
  simp only [List.mem_cons, List.not_mem_nil, or_false] at hu
  rcases hu with rfl | rfl | rfl
  · exact h.far u (by simp)
  · rcases ho with h4 | h4
    · rw [h4]; exact h.far vX (by simp)
    · rw [h4]; intro e; have := Option.some.inj e; omega
  · exact h.far u (by simp)
theorem rdy2 {w : World} {g : Nat} {x y : Value} {t : TypeId} (h : w.heap[g]? = some (.cells #[x, y] t (0, 0))) (x' y' : Value) : (w.cell? ⟨g, 0, none⟩ = some x ∧ w.frozen? ⟨g, 0, none⟩ = false) ∧ ((w.setCell ⟨g, 0, none⟩ x').cell? ⟨g, 1, none⟩ = some y ∧ (w.setCell ⟨g, 0, none⟩ x').frozen? ⟨g, 1, none⟩ = false) ∧ ((w.setCell ⟨g, 0, none⟩ x').setCell ⟨g, 1, none⟩ y').heap[g]? = some (.cells #[x', y'] t (0, 0)) := by
  have h1 : (w.setCell ⟨g, 0, none⟩ x').heap[g]? = some (.cells #[x', y] t (0, 0)) := heap_setCell_same _ g 0 _ _ x' h
  exact ⟨⟨cell_of_row _ _ 0 _ _ _ h, frozen_of_row _ _ 0 _ _ h⟩, ⟨cell_of_row _ _ 1 _ _ _ h1, frozen_of_row _ _ 1 _ _ h1⟩, heap_setCell_same _ g 1 _ _ y' h1⟩
theorem mem_addP {F : Nat} {P : List Pl} {q p : Pl} (h : p ∈ addP F P q) : p ∈ P ∨ p = q := by
  unfold addP at h
  split at h
  · exact .inl h
  · split at h
    · rcases List.mem_append.1 h with h | h
      · exact .inl h
      · exact .inr (by simpa using h)
    · exact .inl h
theorem idxL_len (P qs : List Pl) : (idxL P qs).length ≤ qs.length := by unfold idxL; rw [List.length_map]; exact List.length_filter_le _ _
theorem nxt_len (rs : List Rt) (lo fa re : Bool) (sz : Int) (len : Nat) (p : Pl) : (nxt rs lo fa re sz len p).length ≤ rs.length := by unfold nxt; exact List.length_filterMap_le _ _
theorem WebS.grown {F : Nat} {w w' : World} {base gw gn bm : Nat} {vP vN : Value} {P : List Pl} {D : DVp} {row : Option Nat} (h : WebS F w base gw gn bm vP vN P D) (hg : w.grownBy w' row) (hr : ∀ k, row = some k → base ≤ k) (hp : ∀ k, row = some k → vP.ownBlock ≠ some k) : WebS F w' base gw gn bm vP vN P D := by
  have hle := h.le
  have h1 := h.hgw
  have h2 := h.hgn
  have h3 := h.hbm
  exact h.moved hg.size ((grown_at hg (by omega) (fun e => by have := hr _ e; omega)).trans h.var) (grown_at hg (by omega) (fun e => by have := hr _ e; omega)) (grown_at hg (by omega) (fun e => by have := hr _ e; omega)) (fun k hk => grown_at hg (own_ge h.row hk).2 (fun e => hp k e hk))
theorem wb_i : (Tryd.prog.info? 88).map (·.size) = some 2 := by kernel_rfl
theorem web_res (tmps : Array Value) (w : World) (g : Nat) (cs : Array Value) (hp : tmps.getD 6 undef = .pointer (some ⟨g, 0, none⟩)) (h : w.heap[g]? = some (.cells cs 88 (0, 0))) (hs : cs.size = 2) :
    (results Tryd.f46 tmps).run Tryd.prog w = .ok (.agg cs) w := by
  have hl := run_loadVar_row (P := Tryd.prog) w g 88 88 cs (0, 0) _ h Tryd.underlying88 rfl (by rw [wb_i, hs])
  have hp' : tmps[6]?.getD undef = .pointer (some ⟨g, 0, none⟩) := by simpa using hp
  simp [results, hp', asAddr, hl]
theorem NxS.slice {w : World} {base : Nat} {av : List Value} {vN : Value} {L : List (List Int)} (h : NxS w base av vN L) : ∃ aN nN cN, vN = .slice aN nN cN := by
  obtain ⟨S, h1, -⟩ := h.row
  obtain ⟨a, c, h2⟩ := own_slice0 h1
  exact ⟨a, _, c, h2⟩
end Bw
end Go.Proofs.YtapjiopnjfldhaaDoor
