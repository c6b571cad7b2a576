/- What sched.send has at hand: rows of messages that it takes from, the slots that it tells. -/
import Derived.Test.YtnhnemmddgofnaaDoorSbSend1
import Derived.Test.YtnhnemmddgofnaaDoorSbAskS
namespace Go.Proofs.YtnhnemmddgofnaaDoor
open Go.ChangeShapes Go.WideShapes Go.ChangeAt Go.RowKit
namespace Bw
open Sb (Ms Sl)
set_option linter.unusedVariables false
structure WtQ (w : World) (g n c B U : Nat) (Q : List (List Ms)) : Prop where
  len : Q.length = n
  lo : B ≤ g
  hi : g < U
  row : ∃ vs, w.ownsRow B 71 1 (.slice (some ⟨g, 0, none⟩) n c) n vs ∧ ∀ i, i < n → ∃ a m c', vs[i]? = some (.slice a m c') ∧ MsRow w a m c' (Q.getD i []) B ∧ (∀ x, a = some x → x.block ≠ g ∧ x.block < U)
theorem WtQ.of {w : World} {B : Nat} {v : Value} {Q : List (List Ms)} (h : OwnQ w B v Q) (h0 : 0 < Q.length) : ∃ g c, v = .slice (some ⟨g, 0, none⟩) Q.length c ∧ WtQ w g Q.length c B w.heap.size Q := by
  obtain ⟨vs, h1, h2, h3⟩ := h.row
  rcases h1.2 with ⟨e1, e2⟩ | ⟨g, c, cur, e1, hb, hg, r⟩
  · omega
  · refine ⟨g, c, e1, rfl, hb, lt_of_block hg, vs, by rw [← e1]; exact h1, fun i hi => ?_⟩
    obtain ⟨a, m, c', k1, k2, k3⟩ := h3 i hi
    refine ⟨a, m, c', k1, k2, fun x hx => ⟨fun e => k3 x hx (by rw [e1, e]; rfl), (k2.blk x hx).2.1⟩⟩
theorem WtQ.le {w : World} {g n c B U : Nat} {Q : List (List Ms)} (h : WtQ w g n c B U Q) : n ≤ c ∧ c ≤ maxLen ∧ g < w.heap.size := by
  obtain ⟨vs, h1, -⟩ := h.row
  rcases h1.2 with ⟨e1, e2⟩ | ⟨g', c', cur, e1, hb, hg, hnc, hcm, -⟩
  · cases e1
  · simp only [Value.slice.injEq, Option.some.injEq, Addr.mk.injEq, and_true, true_and] at e1
    obtain ⟨rfl, rfl⟩ := e1
    exact ⟨hnc, hcm, lt_of_block hg⟩
theorem addG (g i : Nat) : (⟨g, 0, none⟩ : Addr).add i = ⟨g, i, none⟩ := by
  unfold Addr.add
  by_cases hz : i = 0 <;> simp [hz]
theorem WtQ.cellAt {w : World} {g n c B U : Nat} {Q : List (List Ms)} (h : WtQ w g n c B U Q) {i : Nat} (hi : i < n) : ∃ a m c', w.cell? ⟨g, i, none⟩ = some (.slice a m c') ∧ MsRow w a m c' (Q.getD i []) B ∧ (∀ x, a = some x → x.block ≠ g ∧ x.block < U) := by
  obtain ⟨vs, h1, h2⟩ := h.row
  obtain ⟨a, m, c', k1, k2, k3⟩ := h2 i hi
  refine ⟨a, m, c', ?_, k2, k3⟩
  have := h1.cells (g := g) rfl i _ k1
  rw [addG] at this
  exact this
theorem WtQ.frozen {w : World} {g n c B U : Nat} {Q : List (List Ms)} (h : WtQ w g n c B U Q) (i : Nat) : w.frozen? ⟨g, i, none⟩ = false := by
  obtain ⟨vs, h1, -⟩ := h.row
  exact h1.frozenAt i
theorem WtQ.view {w : World} {g n c B U : Nat} {Q : List (List Ms)} (h : WtQ w g n c B U Q) : WtV w (some ⟨g, 0, none⟩) n c Q B :=
  ⟨h.len, h.le.1, h.le.2.1, fun e => (by cases e), fun y hy i hi => by
    cases hy
    obtain ⟨a, m, c', k1, k2, -⟩ := h.cellAt hi
    refine ⟨a, m, c', ?_, k2⟩
    rw [addG]
    exact k1⟩
theorem WtQ.kept {w w' : World} {g n c B U : Nat} {Q : List (List Ms)} (h : WtQ w g n c B U Q) (hb : Below w.heap.size w w') : WtQ w' g n c B U Q := by
  obtain ⟨vs, h1, h2⟩ := h.row
  refine ⟨h.len, h.lo, h.hi, vs, ownsRow_below h1 hb, fun i hi => ?_⟩
  obtain ⟨a, m, c', k1, k2, k3⟩ := h2 i hi
  exact ⟨a, m, c', k1, k2.kept hb, k3⟩
theorem MsRow.grown {w w' : World} {a : Option Addr} {m c : Nat} {L : List Ms} {B : Nat} {row : Option Nat} (h : MsRow w a m c L B) (hg : w.grownBy w' row) (hn : ∀ x, a = some x → row ≠ some x.block) : MsRow w' a m c L B :=
  ⟨h.len, h.le, h.max, h.none, fun x hx => ⟨(h.blk x hx).1, Nat.lt_of_lt_of_le (h.blk x hx).2.1 hg.size, (h.blk x hx).2.2⟩, fun x hx i hi => ⟨cell_grown hg (h.cell x hx i hi).1 (by rw [addS_block]; exact hn x hx), cell_grown hg (h.cell x hx i hi).2 (by show row ≠ some (x.add (i * 2)).block; rw [addS_block]; exact hn x hx)⟩⟩
theorem WtQ.grown {w w' : World} {g n c B U : Nat} {Q : List (List Ms)} {row : Option Nat} (h : WtQ w g n c B U Q) (hg : w.grownBy w' row) (hr : ∀ k, row = some k → U ≤ k) : WtQ w' g n c B U Q := by
  obtain ⟨vs, h1, h2⟩ := h.row
  have hne : ∀ k, k < U → row ≠ some k := fun k hk e => by have := hr k e; omega
  refine ⟨h.len, h.lo, h.hi, vs, owns_beside h1 hg (fun k hk => ?_), fun i hi => ?_⟩
  · simp only [Value.ownBlock, Option.some.injEq] at hk
    subst hk
    exact fun e => hne _ h.hi e.symm
  · obtain ⟨a, m, c', k1, k2, k3⟩ := h2 i hi
    exact ⟨a, m, c', k1, k2.grown hg (fun x hx => hne _ (k3 x hx).2), k3⟩
/-- a row without its first message -/
theorem msrow_tail {w : World} {g off m c : Nat} {y : Ms} {tl : List Ms} {B : Nat} (h : MsRow w (some ⟨g, off, none⟩) m c (y :: tl) B) : (c = 1 → tl = [] ∧ MsRow w (some ⟨g, off, none⟩) 0 0 tl B) ∧ (¬ c = 1 → MsRow w (some ⟨g, off + 2, none⟩) tl.length (c - 1) tl B) := by
  have hm : m = tl.length + 1 := by rw [← h.len]; rfl
  have hle := h.le
  have hmx := h.max
  obtain ⟨b1, b2, -⟩ := h.blk _ rfl
  refine ⟨fun hc => ?_, fun hc => ?_⟩
  · have ht : tl = [] := List.eq_nil_of_length_eq_zero (by omega)
    subst ht
    exact ⟨rfl, rfl, Nat.le_refl _, Nat.zero_le _, fun e => (by cases e), fun x hx => (by cases hx; exact ⟨b1, b2, rfl⟩), fun x hx i hi => absurd hi (Nat.not_lt_zero _)⟩
  · refine ⟨rfl, by omega, by omega, fun e => (by cases e), fun x hx => (by cases hx; exact ⟨b1, b2, rfl⟩), fun x hx i hi => ?_⟩
    cases hx
    have := h.cell _ rfl (i + 1) (by omega)
    have e1 : (⟨g, off + 2, none⟩ : Addr).add (i * 2) = (⟨g, off, none⟩ : Addr).add ((i + 1) * 2) := by
      have : (⟨g, off + 2, none⟩ : Addr) = (⟨g, off, none⟩ : Addr).add 2 := by unfold Addr.add; simp
      rw [this, Addr.add_add]
      congr 1
      omega
    rw [e1]
    exact this
theorem WtQ.put {w : World} {g n c B U : Nat} {Q : List (List Ms)} (h : WtQ w g n c B U Q) {i : Nat} (hi : i < n) {a : Option Addr} {m c' : Nat} {tl : List Ms} (hm : MsRow w a m c' tl B) (ha : ∀ x, a = some x → x.block ≠ g ∧ x.block < U) : WtQ (w.setCell ⟨g, i, none⟩ (.slice a m c')) g n c B U (Q.set i tl) ∧ Tch [g] w (w.setCell ⟨g, i, none⟩ (.slice a m c')) := by
  have ht : Tch [g] w (w.setCell ⟨g, i, none⟩ (.slice a m c')) := (Tch.refl [g] w).setK (List.mem_singleton.2 rfl) i _
  obtain ⟨vs, h1, h2⟩ := h.row
  have hvl : vs.length = n := by have := h1.1; simpa using this
  refine ⟨⟨by rw [List.length_set]; exact h.len, h.lo, h.hi, vs.set i (.slice a m c'), (h1.stored i _).1, fun j hj => ?_⟩, ht⟩
  by_cases e : i = j
  · subst e
    refine ⟨a, m, c', by rw [List.getElem?_set_self (by omega)], ?_, ha⟩
    have : (Q.set i tl).getD i [] = tl := by simp [List.getD, h.len, hi]
    rw [this]
    exact hm.turn ht (fun x hx => by simp [(ha x hx).1])
  · obtain ⟨a', m', c2, k1, k2, k3⟩ := h2 j hj
    refine ⟨a', m', c2, by rw [List.getElem?_set_ne e]; exact k1, ?_, k3⟩
    have : (Q.set i tl).getD j [] = Q.getD j [] := by simp [List.getD, List.getElem?_set_ne e]
    rw [this]
    exact k2.turn ht (fun x hx => by simp [(k3 x hx).1])
/-- what is at hand of one row: its first message, and what is left -/
structure HeadAt (w : World) (g i q off TL c' : Nat) (y : Ms) : Prop where
  p : w.cell? ⟨g, i, none⟩ = some (.slice (some ⟨q, off, none⟩) (TL + 1) c')
  d : w.cell? ⟨q, off, none⟩ = some (.int .i64 (y.1 : Nat))
  le : TL + 1 ≤ c'
  max : c' ≤ maxLen
theorem WtQ.take {w : World} {g n c B U : Nat} {Q : List (List Ms)} (h : WtQ w g n c B U Q) {i : Nat} (hi : i < n) {y : Ms} {tl : List Ms} (hq : Q.getD i [] = y :: tl) : ∃ q off c', HeadAt w g i q off tl.length c' y ∧ (c' = 1 → tl.length = 0 ∧ WtQ (w.setCell ⟨g, i, none⟩ (.slice (some ⟨q, off, none⟩) 0 0)) g n c B U (Q.set i tl)) ∧ (¬ c' = 1 → WtQ (w.setCell ⟨g, i, none⟩ (.slice (some ⟨q, off + 2, none⟩) tl.length (c' - 1))) g n c B U (Q.set i tl)) := by
  obtain ⟨a, m, c', k1, k2, k3⟩ := h.cellAt hi
  rw [hq] at k2
  obtain ⟨q, off, rfl, rfl, b1, b2, d0, d1⟩ := k2.head
  obtain ⟨t1, t2⟩ := msrow_tail k2
  have hk := k3 _ rfl
  refine ⟨q, off, c', ⟨k1, d0, k2.le, k2.max⟩, fun hc => ?_, fun hc => ?_⟩
  · obtain ⟨e1, e2⟩ := t1 hc
    exact ⟨by rw [e1]; rfl, (h.put hi e2 (fun x hx => by cases hx; exact hk)).1⟩
  · exact (h.put hi (t2 hc) (fun x hx => by cases hx; exact hk)).1
/-- slots as cells -/
def slC (C : Nat → Nat) (x : Sl) : List Value := [.int .i64 (x.k : Nat), .int .i64 (x.d : Nat), .int .i64 (x.s : Nat), .int .i64 ((x.s + C x.k : Nat) : Int)]
def slCs (C : Nat → Nat) (L : List Sl) : List Value := L.flatMap (slC C)
theorem slCs_snoc (C : Nat → Nat) (L : List Sl) (x : Sl) : slCs C (L ++ [x]) = slCs C L ++ slC C x := by unfold slCs; simp
theorem slCs_len (C : Nat → Nat) : ∀ L : List Sl, (slCs C L).length = L.length * 4
  | [] => rfl
  | x :: L => by
    have := slCs_len C L
    unfold slCs at this ⊢
    rw [List.flatMap_cons, List.length_append, this, List.length_cons]
    simp only [slC, List.length_cons, List.length_nil]
    omega
/-- between messages -/
structure SdS (w0 w wr : World) (g n c B : Nat) (C : Nat → Nat) (vS : Value) (S : List Sl) (Q : List (List Ms)) : Prop where
  b0 : w0.heap.size ≤ B
  bw : B ≤ w.heap.size
  old : Below w0.heap.size w0 wr
  size : w.heap.size ≤ wr.heap.size
  q : WtQ wr g n c B w.heap.size Q
  out : wr.ownsRow w.heap.size 38 4 vS S.length (slCs C S)
theorem SdS.kept {w0 w wr w' : World} {g n c B : Nat} {C : Nat → Nat} {vS : Value} {S : List Sl} {Q : List (List Ms)} (h : SdS w0 w wr g n c B C vS S Q) (hb : Below wr.heap.size wr w') : SdS w0 w w' g n c B C vS S Q :=
  ⟨h.b0, h.bw, bl2 h.old hb, Nat.le_trans h.size hb.size, h.q.kept hb, ownsRow_below h.out hb⟩
theorem SdS.app {w0 w w2 w3 : World} {g n c B : Nat} {C : Nat → Nat} {vS v3 : Value} {S : List Sl} {Q : List (List Ms)} {x : Sl} (h : SdS w0 w w2 g n c B C vS S Q) (hrow : w3.ownsRow w.heap.size 38 4 v3 (S.length + 1) (slCs C S ++ slC C x)) (hg : w2.grownBy w3 vS.ownBlock) : SdS w0 w w3 g n c B C v3 (S ++ [x]) Q := by
  have hr : ∀ k, vS.ownBlock = some k → w.heap.size ≤ k := fun k hk => (h.out.lt k hk).1
  refine ⟨h.b0, h.bw, h.old.grown hg h.old.size (fun k hk => ?_), Nat.le_trans h.size hg.size, h.q.grown hg hr, ?_⟩
  · have := hr k hk; have := h.b0; have := h.bw; omega
  · rw [slCs_snoc, List.length_append, List.length_singleton]; exact hrow
theorem SdS.put {w0 w wr : World} {g n c B i : Nat} {u : Value} {C : Nat → Nat} {vS : Value} {S : List Sl} {Q Q' : List (List Ms)} (h : SdS w0 w wr g n c B C vS S Q) (hq : WtQ (wr.setCell ⟨g, i, none⟩ u) g n c B w.heap.size Q') : SdS w0 w (wr.setCell ⟨g, i, none⟩ u) g n c B C vS S Q' := by
  have ht : Tch [g] wr (wr.setCell ⟨g, i, none⟩ u) := (Tch.refl [g] wr).setK (List.mem_singleton.2 rfl) i u
  refine ⟨h.b0, h.bw, ht.below h.old (fun k hk => by rw [List.mem_singleton] at hk; subst hk; exact Nat.le_trans h.b0 h.q.lo) (Nat.le_refl _), Nat.le_trans h.size ht.size, hq, ownsRow_tch h.out ht (fun k hk hm => ?_)⟩
  rw [List.mem_singleton] at hm
  subst hm
  have := (h.out.lt k hk).1
  have := h.q.hi
  omega
end Bw
end Go.Proofs.YtnhnemmddgofnaaDoor
