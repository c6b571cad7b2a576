/- Rows of numbers, of messages, of slots; what is late; of package sched's memory. -/
import Derived.Test.YtnhnemmddgofnaaDoorD1
import Derived.Test.YtnhnemmddgofnaaDoorC5
import Derived.Test.YtnhnemmddgofnaaDoorSbAsk
import Derived.Test.YtnhnemmddgofnaaDoorAppTwo
import Derived.Laws.OwnMore
namespace Go.Proofs.YtnhnemmddgofnaaDoor
open Go.ChangeShapes Go.WideShapes Go.ChangeAt Go.RowKit
namespace Bw
open Sb (Ms)
set_option linter.unusedVariables false
theorem blkS_lt {w : World} {a : Addr} {v : Value} (hc : w.cell? a = some v) : a.block < w.heap.size := by
  rcases Nat.lt_or_ge a.block w.heap.size with h | h
  · exact h
  · unfold World.cell? at hc
    rw [Array.getElem?_eq_none h] at hc
    simp at hc
theorem addS_block (x : Addr) (i : Nat) : (x.add i).block = x.block := by unfold Addr.add; split <;> rfl
/-- a cell of a block that has not turned -/
theorem cell_tch {gs : List Nat} {w w' : World} (ht : Tch gs w w') {a : Addr} {v : Value} (hc : w.cell? a = some v) (hn : a.block ∉ gs) : w'.cell? a = some v := by
  have hlt := blkS_lt hc
  unfold World.cell? at hc ⊢
  rw [ht.block _ hlt hn]
  exact hc
/-- numbers in a row -/
structure IsNs (w : World) (a : Option Addr) (n cap : Nat) (l : List Int) : Prop where
  len : l.length = n
  le : n ≤ cap
  max : cap ≤ maxLen
  none : a = none → n = 0
  cell : ∀ x, a = some x → ∀ i, i < n → w.cell? (x.add i) = some (.int .i64 (l.getD i 0))
theorem IsNs.kept {w w' : World} {a : Option Addr} {n cap : Nat} {l : List Int} (h : IsNs w a n cap l) (hb : Below w.heap.size w w') : IsNs w' a n cap l :=
  ⟨h.len, h.le, h.max, h.none, fun x hx i hi => cell_kept hb (h.cell x hx i hi)⟩
theorem IsNs.turn {gs : List Nat} {w w' : World} {a : Option Addr} {n cap : Nat} {l : List Int} (h : IsNs w a n cap l) (ht : Tch gs w w') (hg : ∀ x, a = some x → 0 < n → x.block ∉ gs) : IsNs w' a n cap l :=
  ⟨h.len, h.le, h.max, h.none, fun x hx i hi => cell_tch ht (h.cell x hx i hi) (by rw [addS_block]; exact hg x hx (by omega))⟩
theorem IsNs.some {w : World} {a : Option Addr} {n cap : Nat} {l : List Int} (h : IsNs w a n cap l) {i : Nat} (hi : i < n) : ∃ x, a = some x := by
  cases a with
  | none => exact absurd (h.none rfl) (by omega)
  | some x => exact ⟨x, rfl⟩
/-- messages in a row that lies from block B on -/
structure MsRow (w : World) (a : Option Addr) (m c : Nat) (L : List Ms) (B : Nat) : Prop where
  len : L.length = m
  le : m ≤ c
  max : c ≤ maxLen
  none : a = none → m = 0
  blk : ∀ x, a = some x → B ≤ x.block ∧ x.block < w.heap.size ∧ x = ⟨x.block, x.off, Option.none⟩
  cell : ∀ x, a = some x → ∀ i, i < m → w.cell? (x.add (i * 2)) = some (.int .i64 ((L.getD i (0, 0)).1 : Nat)) ∧ w.cell? ⟨(x.add (i * 2)).block, (x.add (i * 2)).off + 1, Option.none⟩ = some (.int .i64 ((L.getD i (0, 0)).2 : Nat))
theorem MsRow.turn {gs : List Nat} {w w' : World} {a : Option Addr} {m c : Nat} {L : List Ms} {B : Nat} (h : MsRow w a m c L B) (ht : Tch gs w w') (hg : ∀ x, a = some x → x.block ∉ gs) : MsRow w' a m c L B :=
  ⟨h.len, h.le, h.max, h.none, fun x hx => ⟨(h.blk x hx).1, Nat.lt_of_lt_of_le (h.blk x hx).2.1 ht.size, (h.blk x hx).2.2⟩, fun x hx i hi => ⟨cell_tch ht (h.cell x hx i hi).1 (by rw [addS_block]; exact hg x hx), cell_tch ht (h.cell x hx i hi).2 (by show (x.add (i * 2)).block ∉ gs; rw [addS_block]; exact hg x hx)⟩⟩
theorem MsRow.kept {w w' : World} {a : Option Addr} {m c : Nat} {L : List Ms} {B : Nat} (h : MsRow w a m c L B) (hb : Below w.heap.size w w') : MsRow w' a m c L B :=
  h.turn (Tch.of (gs := []) hb) (fun x _ => by simp)
def msCs (L : List Ms) : List Value := L.flatMap fun m => [.int .i64 (m.1 : Nat), .int .i64 (m.2 : Nat)]
theorem msCs_len : ∀ L : List Ms, (msCs L).length = L.length * 2
  | [] => rfl
  | m :: L => by
    have := msCs_len L
    unfold msCs at this ⊢
    rw [List.flatMap_cons, List.length_append, this, List.length_cons]
    simp only [List.length_cons, List.length_nil]
    omega
theorem msCs_snoc (L : List Ms) (m : Ms) : msCs (L ++ [m]) = msCs L ++ [.int .i64 (m.1 : Nat), .int .i64 (m.2 : Nat)] := by unfold msCs; simp
theorem msCs_at : ∀ {L : List Ms} {i : Nat}, i < L.length → (msCs L)[i * 2]? = some (.int .i64 ((L.getD i (0, 0)).1 : Nat)) ∧ (msCs L)[i * 2 + 1]? = some (.int .i64 ((L.getD i (0, 0)).2 : Nat))
  | [], _, h => by simp at h
  | m :: L, 0, _ => ⟨rfl, rfl⟩
  | m :: L, i + 1, h => by
    have h1 := msCs_at (L := L) (i := i) (by simp at h; omega)
    have e : msCs (m :: L) = .int .i64 (m.1 : Nat) :: .int .i64 (m.2 : Nat) :: msCs L := rfl
    rw [e, show (i + 1) * 2 = i * 2 + 1 + 1 by omega, List.getElem?_cons_succ, List.getElem?_cons_succ, List.getElem?_cons_succ, List.getElem?_cons_succ]
    exact h1
theorem add_oneS (g k : Nat) : (⟨g, 0, none⟩ : Addr).add (k + 1) = ⟨((⟨g, 0, none⟩ : Addr).add k).block, ((⟨g, 0, none⟩ : Addr).add k).off + 1, none⟩ := by
  rw [← Addr.add_add]
  unfold Addr.add
  by_cases hz : k = 0 <;> simp [hz]
/-- a row of one's own as one that is read -/
theorem ms_own {w : World} {base : Nat} {v : Value} {L : List Ms} {n : Nat} (h : w.ownsRow base 73 2 v n (msCs L)) (hn : n = L.length) : ∃ a c, v = .slice a n c ∧ MsRow w a n c L base ∧ (∀ x, a = some x → v.ownBlock = some x.block) := by
  rcases h.2 with ⟨h1, h2⟩ | ⟨g, c, cur, h1, hb, hg, hnc, hcm, hcs, htk⟩
  · subst h2
    exact ⟨none, 0, h1, ⟨hn.symm, Nat.le_refl _, Nat.zero_le _, fun _ => rfl, fun x hx => (by cases hx), fun x hx => (by cases hx)⟩, fun x hx => (by cases hx)⟩
  · refine ⟨_, c, h1, ⟨hn.symm, hnc, hcm, fun e => (by cases e), fun x hx => ?_, fun x hx i hi => ?_⟩, fun x hx => ?_⟩
    · cases hx
      exact ⟨hb, lt_of_block hg, rfl⟩
    · cases hx
      rw [h1] at h
      obtain ⟨e1, e2⟩ := msCs_at (L := L) (i := i) (by omega)
      have q1 := h.cells (g := g) rfl _ _ e1
      have q2 := h.cells (g := g) rfl _ _ e2
      refine ⟨q1, ?_⟩
      rw [← add_oneS]
      exact q2
    · cases hx
      rw [h1]
      rfl
/-- rows of messages: one's own list of them -/
structure OwnQ (w : World) (base : Nat) (v : Value) (Q : List (List Ms)) : Prop where
  row : ∃ vs, w.ownsRow base 71 1 v Q.length vs ∧ vs.length = Q.length ∧ ∀ i, i < Q.length → ∃ a m c, vs[i]? = some (.slice a m c) ∧ MsRow w a m c (Q.getD i []) base ∧ (∀ x, a = some x → v.ownBlock ≠ some x.block)
theorem OwnQ.nil (w : World) (base : Nat) : OwnQ w base (.slice none 0 0) [] := ⟨[], World.ownsRow_nil _ _ _ _, rfl, fun i hi => absurd hi (Nat.not_lt_zero _)⟩
theorem ownsRow_tch {gs : List Nat} {w w' : World} {base : Nat} {e : TypeId} {size : Nat} {v : Value} {n : Nat} {xs : List Value} (h : w.ownsRow base e size v n xs) (ht : Tch gs w w') (hg : ∀ k, v.ownBlock = some k → k ∉ gs) : w'.ownsRow base e size v n xs := by
  obtain ⟨h1, h2⟩ := h
  refine ⟨h1, ?_⟩
  rcases h2 with h2 | ⟨g, cap, cur, hv, hgb, hh, r⟩
  · exact Or.inl h2
  · subst hv
    refine Or.inr ⟨g, cap, cur, rfl, hgb, ?_, r⟩
    rw [ht.block g (lt_of_block hh) (hg g rfl)]
    exact hh
theorem OwnQ.turn {gs : List Nat} {w w' : World} {base : Nat} {v : Value} {Q : List (List Ms)} (h : OwnQ w base v Q) (ht : Tch gs w w') (hg : ∀ g ∈ gs, g < base) : OwnQ w' base v Q := by
  obtain ⟨vs, h1, h2, h3⟩ := h.row
  refine ⟨vs, ownsRow_tch h1 ht (fun k hk hm => ?_), h2, fun i hi => ?_⟩
  · have := (h1.lt k hk).1
    have := hg k hm
    omega
  · obtain ⟨a, m, c, e1, e2, e3⟩ := h3 i hi
    refine ⟨a, m, c, e1, e2.turn ht (fun x hx hm => ?_), e3⟩
    have := (e2.blk x hx).1
    have := hg _ hm
    omega
/-- one more -/
theorem OwnQ.add {w w' : World} {base : Nat} {v v' : Value} {Q : List (List Ms)} {a : Option Addr} {m c : Nat} {L : List Ms} (h : OwnQ w base v Q) (hm : MsRow w a m c L base) (hva : ∀ x, a = some x → v.ownBlock ≠ some x.block)
    {vs : List Value} (hvs : w.ownsRow base 71 1 v Q.length vs) (hrow : w'.ownsRow base 71 1 v' (Q.length + 1) (vs ++ [.slice a m c])) (hg : w.grownBy w' v.ownBlock) (hb : v'.ownBlock = v.ownBlock ∨ v'.ownBlock = some w.heap.size)
    (hall : vs.length = Q.length ∧ ∀ i, i < Q.length → ∃ a m c, vs[i]? = some (.slice a m c) ∧ MsRow w a m c (Q.getD i []) base ∧ (∀ x, a = some x → v.ownBlock ≠ some x.block)) : OwnQ w' base v' (Q ++ [L]) := by
  have ht : ∀ {a : Option Addr} {m c : Nat} {L : List Ms}, MsRow w a m c L base → (∀ x, a = some x → v.ownBlock ≠ some x.block) → MsRow w' a m c L base ∧ (∀ x, a = some x → v'.ownBlock ≠ some x.block) := by
    intro a m c L h1 h2
    have hcell : ∀ {y : Addr} {u : Value}, w.cell? y = some u → v.ownBlock ≠ some y.block → w'.cell? y = some u := by
      intro y u hc hy
      have hlt := blkS_lt hc
      unfold World.cell? at hc ⊢
      rw [hg.block _ hlt (fun e => hy e.symm)]
      exact hc
    refine ⟨⟨h1.len, h1.le, h1.max, h1.none, fun x hx => ⟨(h1.blk x hx).1, Nat.lt_of_lt_of_le (h1.blk x hx).2.1 hg.size, (h1.blk x hx).2.2⟩, fun x hx i hi => ⟨hcell (h1.cell x hx i hi).1 (by rw [addS_block]; exact h2 x hx), hcell (h1.cell x hx i hi).2 (by show v.ownBlock ≠ some (x.add (i * 2)).block; rw [addS_block]; exact h2 x hx)⟩⟩, fun x hx => ?_⟩
    rcases hb with hb | hb
    · rw [hb]; exact h2 x hx
    · rw [hb]
      intro e
      have := Option.some.inj e
      have := (h1.blk x hx).2.1
      omega
  refine ⟨vs ++ [.slice a m c], by rw [List.length_append]; exact hrow, by simp [hall.1], fun i hi => ?_⟩
  rw [List.length_append, List.length_singleton] at hi
  by_cases e : i = Q.length
  · subst e
    refine ⟨a, m, c, by rw [List.getElem?_append_right (by omega), hall.1, Nat.sub_self]; rfl, ?_⟩
    have : (Q ++ [L]).getD Q.length [] = L := by simp [List.getD]
    rw [this]
    exact ht hm hva
  · obtain ⟨a', m', c', e1, e2, e3⟩ := hall.2 i (by omega)
    refine ⟨a', m', c', by rw [List.getElem?_append_left (by omega)]; exact e1, ?_⟩
    have : (Q ++ [L]).getD i [] = Q.getD i [] := by simp [List.getD, List.getElem?_append_left (show i < Q.length by omega)]
    rw [this]
    exact ht e2 e3
/-- the memory of what is late -/
structure LtAt (w : World) (b p : Nat) (a : Option Addr) (m c : Nat) (lt : List Int) (k : Nat) : Prop where
  box : w.cell? ⟨b, 0, none⟩ = some (.slice a m c)
  pos : BoxAt w p 3 (.int .i64 (k % m : Nat))
  row : IsNs w a m c lt
  bp : b ≠ p
  far : ∀ x, a = some x → 0 < m → x.block ≠ p
theorem LtAt.kept {w w' : World} {b p : Nat} {a : Option Addr} {m c : Nat} {lt : List Int} {k : Nat} (h : LtAt w b p a m c lt k) (hb : Below w.heap.size w w') : LtAt w' b p a m c lt k :=
  ⟨cell_kept hb h.box, h.pos.kept hb, h.row.kept hb, h.bp, h.far⟩
theorem LtAt.put {w : World} {b p : Nat} {a : Option Addr} {m c : Nat} {lt : List Int} {k : Nat} (h : LtAt w b p a m c lt k) {k' : Nat} {i : Int} (hi : i = (k' % m : Nat)) : LtAt (w.setCell ⟨p, 0, none⟩ (.int .i64 i)) b p a m c lt k' ∧ Tch [p] w (w.setCell ⟨p, 0, none⟩ (.int .i64 i)) := by
  subst hi
  have ht : Tch [p] w (w.setCell ⟨p, 0, none⟩ (.int .i64 (k' % m : Nat))) := (Tch.refl [p] w).set (List.mem_singleton.2 rfl) _
  refine ⟨⟨cell_tch ht h.box (by simp [h.bp]), h.pos.set _, h.row.turn ht (fun x hx h0 => by simp [h.far x hx h0]), h.bp, h.far⟩, ht⟩
def ltV (b p : Nat) : Value := .func (.func 29) #[] #[.pointer (some ⟨b, 0, none⟩), .pointer (some ⟨p, 0, none⟩)]
end Bw
end Go.Proofs.YtnhnemmddgofnaaDoor
