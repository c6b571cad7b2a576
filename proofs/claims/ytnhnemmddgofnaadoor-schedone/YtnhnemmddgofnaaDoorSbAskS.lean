/- What sched.ask has at hand: between tasks, and amid one task's messages. -/
import Derived.Test.YtnhnemmddgofnaaDoorSbLate
namespace Go.Proofs.YtnhnemmddgofnaaDoor
open Go.ChangeShapes Go.WideShapes Go.ChangeAt Go.RowKit
namespace Bw
open Sb (Ms)
set_option linter.unusedVariables false
theorem Tch.grown {gs : List Nat} {w a b : World} {row : Option Nat} (h : Tch gs w a) (hg : a.grownBy b row) (hr : ∀ k, row = some k → w.heap.size ≤ k) : Tch gs w b :=
  ⟨hg.os.trans h.os, hg.tape.trans h.tape, hg.output.trans h.output, Nat.le_trans h.size hg.size, fun k hk hn => (hg.block k (Nat.lt_of_lt_of_le hk h.size) (fun e => by have := hr k e.symm; omega)).trans (h.block k hk hn)⟩
theorem IsTks.old {w0 w : World} {a : Option Addr} {n c : Nat} {l : List Tk} (h : IsTks w0 a n c l) (hb : Below w0.heap.size w0 w) : IsTks w a n c l := h.kept hb
theorem TkAt.turn {gs : List Nat} {w w' : World} {g : Nat} {x : Tk} (h : TkAt w g x) (ht : Tch gs w w') (hg : g ∉ gs) : TkAt w' g x :=
  ⟨cell_tch ht h.c0 hg, cell_tch ht h.c1 hg, cell_tch ht h.c2 hg, cell_tch ht h.c3 hg, cell_tch ht h.c4 hg⟩
theorem cell_grown {w w' : World} {row : Option Nat} (hg : w.grownBy w' row) {y : Addr} {u : Value} (hc : w.cell? y = some u) (hy : row ≠ some y.block) : w'.cell? y = some u := by
  have hlt := blkS_lt hc
  unfold World.cell? at hc ⊢
  rw [hg.block _ hlt (fun e => hy e.symm)]
  exact hc
theorem LtAt.grown {w w' : World} {b p : Nat} {a : Option Addr} {m c : Nat} {lt : List Int} {k B : Nat} {row : Option Nat} (h : LtAt w b p a m c lt k) (hg : w.grownBy w' row) (hr : ∀ q, row = some q → B ≤ q) (hb : b < B) (hp : p < B) (ha : ∀ x, a = some x → 0 < m → x.block < B) : LtAt w' b p a m c lt k := by
  have hn : ∀ q, q < B → row ≠ some q := fun q hq e => by have := hr q e; omega
  refine ⟨cell_grown hg h.box (hn b hb), ?_, ⟨h.row.len, h.row.le, h.row.max, h.row.none, fun x hx i hi => cell_grown hg (h.row.cell x hx i hi) (by rw [addS_block]; exact hn _ (ha x hx (by omega)))⟩, h.bp, h.far⟩
  have := h.pos
  unfold BoxAt at this ⊢
  rw [hg.block p h.pos.lt (fun e => hn p hp e.symm)]
  exact this
/-- where all lies -/
structure AkP (w0 w : World) (b p : Nat) (a : Option Addr) (m : Nat) : Prop where
  old : w0.heap.size ≤ p
  p : p < w.heap.size
  b : b < w.heap.size
  a : ∀ x, a = some x → 0 < m → x.block < w.heap.size
/-- between tasks -/
structure AkO (w0 w wr : World) (b p : Nat) (a : Option Addr) (m c : Nat) (lt : List Int) (kk : Nat) (vO : Value) (M : List (List Ms)) : Prop where
  pl : AkP w0 w b p a m
  old : Below w0.heap.size w0 wr
  tch : Tch [p] w wr
  late : LtAt wr b p a m c lt kk
  out : OwnQ wr w.heap.size vO M
theorem AkO.start {w0 w : World} {b p : Nat} {a : Option Addr} {m c : Nat} {lt : List Int} {kk : Nat} (hp : AkP w0 w b p a m) (ho : Below w0.heap.size w0 w) (hl : LtAt w b p a m c lt kk) : AkO w0 w w b p a m c lt kk (.slice none 0 0) [] :=
  ⟨hp, ho, Tch.refl _ _, hl, OwnQ.nil _ _⟩
theorem AkO.kept {w0 w wr wz : World} {b p : Nat} {a : Option Addr} {m c : Nat} {lt : List Int} {kk : Nat} {vO : Value} {M : List (List Ms)} (h : AkO w0 w wr b p a m c lt kk vO M) (hb : Below wr.heap.size wr wz) : AkO w0 w wz b p a m c lt kk vO M :=
  ⟨h.pl, bl2 h.old hb, h.tch.trans (Tch.of hb), h.late.kept hb, h.out.turn (Tch.of (gs := []) hb) (fun g hg => by cases hg)⟩
/-- amid one task's: since the world W -/
structure AkI (W wz : World) (b p : Nat) (a : Option Addr) (m c : Nat) (lt : List Int) (kk : Nat) (v : Value) (ms : List Ms) : Prop where
  tch : Tch [p] W wz
  late : LtAt wz b p a m c lt kk
  own : wz.ownsRow W.heap.size 73 2 v ms.length (msCs ms)
theorem AkO.amid {w0 w wr : World} {b p : Nat} {a : Option Addr} {m c : Nat} {lt : List Int} {kk : Nat} {vO : Value} {M : List (List Ms)} (h : AkO w0 w wr b p a m c lt kk vO M) : AkI wr wr b p a m c lt kk (.slice none 0 0) [] :=
  ⟨Tch.refl _ _, h.late, World.ownsRow_nil _ _ _ _⟩
theorem AkO.old2 {w0 w W wz : World} {b p : Nat} {a : Option Addr} {m c : Nat} {lt : List Int} {kk : Nat} {vO : Value} {M : List (List Ms)} (h : AkO w0 w W b p a m c lt kk vO M) (ht : Tch [p] W wz) : Below w0.heap.size w0 wz :=
  ht.below h.old (fun g hg => by rw [List.mem_singleton] at hg; subst hg; exact h.pl.old) (Nat.le_refl _)
theorem AkI.step {W wz w1 : World} {b p : Nat} {a : Option Addr} {m c : Nat} {lt : List Int} {kk kk' : Nat} {v : Value} {ms : List Ms} (h : AkI W wz b p a m c lt kk v ms) (hl : LtAt w1 b p a m c lt kk') (ht : Tch [p] wz w1) (hp : p < W.heap.size) : AkI W w1 b p a m c lt kk' v ms :=
  ⟨h.tch.trans ht, hl, ownsRow_tch h.own ht (fun k hk hm => by rw [List.mem_singleton] at hm; subst hm; have := (h.own.lt k hk).1; omega)⟩
theorem AkI.kept {W wz w1 : World} {b p : Nat} {a : Option Addr} {m c : Nat} {lt : List Int} {kk : Nat} {v : Value} {ms : List Ms} (h : AkI W wz b p a m c lt kk v ms) (hb : Below wz.heap.size wz w1) : AkI W w1 b p a m c lt kk v ms :=
  ⟨h.tch.trans (Tch.of hb), h.late.kept hb, ownsRow_below h.own hb⟩
theorem AkI.app {w0 w W w2 w3 : World} {b p : Nat} {a : Option Addr} {m c : Nat} {lt : List Int} {kk : Nat} {v v3 : Value} {ms : List Ms} {d q : Nat} (h : AkI W w2 b p a m c lt kk v ms) (hP : AkP w0 w b p a m) (hW : w.heap.size ≤ W.heap.size) (hrow : w3.ownsRow W.heap.size 73 2 v3 (ms.length + 1) (msCs ms ++ [.int .i64 (d : Nat), .int .i64 (q : Nat)])) (hg : w2.grownBy w3 v.ownBlock) : AkI W w3 b p a m c lt kk v3 (ms ++ [(d, q)]) := by
  have hr : ∀ k, v.ownBlock = some k → W.heap.size ≤ k := fun k hk => (h.own.lt k hk).1
  refine ⟨h.tch.grown hg hr, h.late.grown hg hr (by have := hP.b; omega) (by have := hP.p; omega) (fun x hx h0 => by have := hP.a x hx h0; omega), ?_⟩
  rw [msCs_snoc, List.length_append, List.length_singleton]
  exact hrow
theorem MsRow.base {w : World} {a : Option Addr} {m c : Nat} {L : List Ms} {B B' : Nat} (h : MsRow w a m c L B) (hB : B' ≤ B) : MsRow w a m c L B' :=
  ⟨h.len, h.le, h.max, h.none, fun x hx => ⟨Nat.le_trans hB (h.blk x hx).1, (h.blk x hx).2⟩, h.cell⟩
/-- one task's messages as a row beside all others -/
theorem AkO.done {w0 w W wz : World} {b p : Nat} {a : Option Addr} {m c : Nat} {lt : List Int} {kk kk' : Nat} {vO v : Value} {M : List (List Ms)} {ms : List Ms} (h : AkO w0 w W b p a m c lt kk vO M) (hi : AkI W wz b p a m c lt kk' v ms) :
    AkO w0 w wz b p a m c lt kk' vO M ∧ ∃ a2 c2, v = .slice a2 ms.length c2 ∧ MsRow wz a2 ms.length c2 ms w.heap.size ∧ (∀ x, a2 = some x → vO.ownBlock ≠ some x.block) := by
  refine ⟨⟨h.pl, h.old2 hi.tch, h.tch.trans hi.tch, hi.late, h.out.turn hi.tch (fun g hg => by rw [List.mem_singleton] at hg; subst hg; exact h.pl.p)⟩, ?_⟩
  obtain ⟨a2, c2, e1, e2, e3⟩ := ms_own hi.own rfl
  refine ⟨a2, c2, e1, e2.base h.tch.size, fun x hx e => ?_⟩
  obtain ⟨vs, h1, -⟩ := h.out.row
  have h2 := (h1.lt _ e).2
  have h3 := (e2.blk x hx).1
  omega
theorem AkO.app {w0 w w2 w3 : World} {b p : Nat} {a : Option Addr} {m c : Nat} {lt : List Int} {kk : Nat} {vO v3 : Value} {M : List (List Ms)} {ms : List Ms} {a2 : Option Addr} {m2 c2 : Nat} {vs : List Value} (h : AkO w0 w w2 b p a m c lt kk vO M) (hm : MsRow w2 a2 m2 c2 ms w.heap.size) (hva : ∀ x, a2 = some x → vO.ownBlock ≠ some x.block)
    (hvs : w2.ownsRow w.heap.size 71 1 vO M.length vs) (hall : vs.length = M.length ∧ ∀ i, i < M.length → ∃ a m c, vs[i]? = some (.slice a m c) ∧ MsRow w2 a m c (M.getD i []) w.heap.size ∧ (∀ x, a = some x → vO.ownBlock ≠ some x.block))
    (hrow : w3.ownsRow w.heap.size 71 1 v3 (M.length + 1) (vs ++ [.slice a2 m2 c2])) (hg : w2.grownBy w3 vO.ownBlock) (hb : v3.ownBlock = vO.ownBlock ∨ v3.ownBlock = some w2.heap.size) : AkO w0 w w3 b p a m c lt kk v3 (M ++ [ms]) := by
  have hr : ∀ k, vO.ownBlock = some k → w.heap.size ≤ k := fun k hk => (hvs.lt k hk).1
  have h0 : w0.heap.size ≤ w.heap.size := by have := h.pl.old; have := h.pl.p; omega
  exact ⟨h.pl, h.old.grown hg (by have := h.old.size; omega) (fun k hk => Nat.le_trans h0 (hr k hk)), h.tch.grown hg hr, h.late.grown hg hr h.pl.b h.pl.p h.pl.a, h.out.add hm hva hvs hrow hg hb hall⟩
end Bw
end Go.Proofs.YtnhnemmddgofnaaDoor
