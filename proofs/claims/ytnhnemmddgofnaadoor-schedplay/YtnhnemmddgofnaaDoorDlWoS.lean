/- delay.Worst: what it has at hand while it goes over the tasks. -/
import Derived.Test.YtnhnemmddgofnaaDoorD2
import Derived.Test.YtnhnemmddgofnaaDoorAppTwo
namespace Go.Proofs.YtnhnemmddgofnaaDoor
open Go.ChangeShapes Go.WideShapes Go.ChangeAt Go.RowKit Go.Sort
namespace Bw
set_option linter.unusedVariables false
theorem info_stop : (Tryd.prog.info? 49).map (fun i => (i.zero, i.size, i.bytes)) = some (some (.agg #[.int .i64 0, .bool false]), 2, 16) := by kernel_rfl
theorem info_work : (Tryd.prog.info? 67).map (fun i => (i.zero, i.size, i.bytes)) = some (some .nilFunc, 1, 8) := by kernel_rfl
theorem own_geD {w : World} {base : Nat} {e : TypeId} {size : Nat} {v : Value} {n : Nat} {xs : List Value} (h : w.ownsRow base e size v n xs) {k : Nat} (hk : v.ownBlock = some k) : base ≤ k ∧ k < w.heap.size := by
  rcases h.2 with ⟨h1, -⟩ | ⟨g, c, cur, h1, h2, h3, -⟩
  · subst h1; cases hk
  · subst h1; cases hk; exact ⟨h2, (Array.getElem?_eq_some_iff.1 h3).1⟩
theorem own_sliceD {w : World} {base : Nat} {e : TypeId} {size : Nat} {v : Value} {n : Nat} {xs : List Value} (h : w.ownsRow base e size v n xs) : ∃ a c, v = .slice a n c := by
  rcases h.2 with ⟨h1, h2⟩ | ⟨g, c, cur, h1, _⟩
  · exact ⟨none, 0, by rw [h1, h2]⟩
  · exact ⟨_, c, h1⟩
theorem grown_atD {w w' : World} {row : Option Nat} (h : w.grownBy w' row) {k : Nat} (hk : k < w.heap.size) (hn : row ≠ some k) : w'.heap[k]? = w.heap[k]? := h.block k hk (fun e => hn e.symm)
def fitB (l : List Tk) (i : Nat) : Bool := decide (0 ≤ stopAt l i) && decide (stopAt l i ≤ (l.getD i noT).la)
def stE1 (l : List Tk) (i : Nat) : List Value := [.int .i64 (stopAt l i), .bool (fitB l i)]
def stC (l : List Tk) (k : Nat) : List Value := (List.range k).flatMap (stE1 l)
theorem stC_snoc (l : List Tk) (k : Nat) : stC l (k + 1) = stC l k ++ stE1 l k := by unfold stC; rw [List.range_succ, List.flatMap_append]; simp
structure WkIn (w : World) (vO vW : Value) (v : Value) (x : Tk) (p q : Nat) : Prop where
  v : v = wkV p q
  on : WkOn w p q x
  pl : p < w.heap.size
  ql : q < w.heap.size
  po : vO.ownBlock ≠ some p
  qo : vO.ownBlock ≠ some q
  pw : vW.ownBlock ≠ some p
  qw : vW.ownBlock ≠ some q
structure WoS (w : World) (base : Nat) (l : List Tk) (ko k : Nat) (vO vW : Value) (vs : List Value) : Prop where
  out : w.ownsRow base 49 2 vO ko (stC l ko)
  wks : w.ownsRow base 67 1 vW k vs
  apart : ApartV vO vW
  len : vs.length = k
  fn : ∀ i, i < k → ∃ p q, WkIn w vO vW (vs.getD i undef) (l.getD i noT) p q
theorem WkIn.kept {w w' : World} {vO vW v : Value} {x : Tk} {p q : Nat} (h : WkIn w vO vW v x p q) (hb : Below w.heap.size w w') : WkIn w' vO vW v x p q :=
  ⟨h.v, h.on.kept hb, Nat.lt_of_lt_of_le h.pl hb.size, Nat.lt_of_lt_of_le h.ql hb.size, h.po, h.qo, h.pw, h.qw⟩
theorem WoS.kept {w w' : World} {base : Nat} {l : List Tk} {ko k : Nat} {vO vW : Value} {vs : List Value} (h : WoS w base l ko k vO vW vs) (hb : Below w.heap.size w w') : WoS w' base l ko k vO vW vs :=
  ⟨ownsRow_below h.out hb, ownsRow_below h.wks hb, h.apart, h.len, fun i hi => by obtain ⟨p, q, hp⟩ := h.fn i hi; exact ⟨p, q, hp.kept hb⟩⟩
theorem WoS.row {w : World} {base : Nat} {l : List Tk} {ko k : Nat} {vO : Value} {a : Option Addr} {c : Nat} {vs : List Value} (h : WoS w base l ko k vO (.slice a k c) vs) (hk : k ≤ l.length) : WksAt w a k c (l.take k) := by
  refine ⟨by simp; omega, fun ha => ?_, fun x hx i hi => ?_⟩
  · subst ha
    rcases h.wks.2 with ⟨h1, h2⟩ | ⟨g, c', cur, h1, -⟩
    · exact h2
    · cases h1
  · subst hx
    obtain ⟨p, q, hp⟩ := h.fn i hi
    refine ⟨p, q, ?_, ?_⟩
    · rcases h.wks.2 with ⟨h1, h2⟩ | ⟨g, c', cur, h1, -⟩
      · cases h1
      · have hx : x = ⟨g, 0, none⟩ := by cases h1; rfl
        subst hx
        have hw := h.wks
        rw [h1] at hw
        have hc := hw.cells (g := g) rfl i (wkV p q) (by
          have hv := hp.v
          rw [← hv]
          simp [List.getD, h.len, hi])
        exact hc
    · have e : (l.take k).getD i noT = l.getD i noT := by simp [List.getD, hi]
      rw [e]
      exact hp.on
theorem WkOn.grown {w w' : World} {p q : Nat} {x : Tk} {row : Option Nat} (h : WkOn w p q x) (hg : w.grownBy w' row) (pl : p < w.heap.size) (ql : q < w.heap.size) (hp : row ≠ some p) (hq : row ≠ some q) : WkOn w' p q x :=
  ⟨(cell_heapD (grown_atD hg pl hp)).trans h.c, (cell_heapD (grown_atD hg ql hq)).trans h.t, (cell_heapD (grown_atD hg ql hq)).trans h.j⟩
theorem ob_next {w : World} {v v' : Value} {p : Nat} (hb : v'.ownBlock = v.ownBlock ∨ v'.ownBlock = some w.heap.size) (h : v.ownBlock ≠ some p) (hp : p < w.heap.size) : v'.ownBlock ≠ some p := by
  rcases hb with hb | hb
  · rw [hb]; exact h
  · rw [hb]; intro e; have := Option.some.inj e; omega
theorem WoS.app1 {w w' : World} {base : Nat} {l : List Tk} {k : Nat} {vO vW vO' : Value} {vs : List Value} (h : WoS w base l k k vO vW vs) (ho : w'.ownsRow base 49 2 vO' (k + 1) (stC l k ++ stE1 l k)) (hg : w.grownBy w' vO.ownBlock) (hb : vO'.ownBlock = vO.ownBlock ∨ vO'.ownBlock = some w.heap.size) : WoS w' base l (k + 1) k vO' vW vs := by
  refine ⟨by rw [stC_snoc]; exact ho, owns_beside h.wks hg (fun j hj e => h.apart j e.symm hj), apart_next h.apart h.wks hb, h.len, fun i hi => ?_⟩
  obtain ⟨p, q, hp⟩ := h.fn i hi
  have hs := hg.size
  exact ⟨p, q, hp.v, hp.on.grown hg hp.pl hp.ql hp.po hp.qo, Nat.lt_of_lt_of_le hp.pl hs, Nat.lt_of_lt_of_le hp.ql hs, ob_next hb hp.po hp.pl, ob_next hb hp.qo hp.ql, hp.pw, hp.qw⟩
theorem WoS.app2 {w w' : World} {base : Nat} {l : List Tk} {k : Nat} {vO vW vW' : Value} {vs : List Value} {v : Value} {p0 q0 : Nat} (h : WoS w base l (k + 1) k vO vW vs) (hv : WkIn w vO vW v (l.getD k noT) p0 q0) (ho : w'.ownsRow base 67 1 vW' (k + 1) (vs ++ [v])) (hg : w.grownBy w' vW.ownBlock) (hb : vW'.ownBlock = vW.ownBlock ∨ vW'.ownBlock = some w.heap.size) : WoS w' base l (k + 1) (k + 1) vO vW' (vs ++ [v]) := by
  refine ⟨owns_beside h.out hg (fun j hj e => h.apart j hj e.symm), ho, (apart_next h.apart.symm h.out hb).symm, by rw [List.length_append, h.len]; rfl, fun i hi => ?_⟩
  have hs := hg.size
  have key : ∀ {u : Value} {x : Tk} {p q : Nat}, WkIn w vO vW u x p q → WkIn w' vO vW' u x p q := fun hp => ⟨hp.v, hp.on.grown hg hp.pl hp.ql hp.pw hp.qw, Nat.lt_of_lt_of_le hp.pl hs, Nat.lt_of_lt_of_le hp.ql hs, hp.po, hp.qo, ob_next hb hp.pw hp.pl, ob_next hb hp.qw hp.ql⟩
  by_cases e : i = k
  · subst e
    have e2 : (vs ++ [v]).getD i undef = v := by simp [List.getD, h.len]
    rw [e2]
    exact ⟨p0, q0, key hv⟩
  · obtain ⟨p, q, hp⟩ := h.fn i (by omega)
    have e2 : (vs ++ [v]).getD i undef = vs.getD i undef := by simp [List.getD, List.getElem?_append_left (show i < vs.length by rw [h.len]; omega)]
    rw [e2]
    exact ⟨p, q, key hp⟩
theorem tks_drop {w : World} {x : Addr} {n c : Nat} {l : List Tk} (h : IsTks w (some x) n c l) {k : Nat} (hk : k ≤ n) : IsTks w (some (x.add (k * 5))) (n - k) (c - k) (l.drop k) := by
  refine ⟨by rw [List.length_drop, h.len], by have := h.le; omega, by have := h.max; omega, fun e => (by cases e), fun y hy i hi => ?_⟩
  cases hy
  have h1 := h.cell x rfl (k + i) (by omega)
  have e1 : (x.add (k * 5)).add (i * 5) = x.add ((k + i) * 5) := by rw [Nat.add_mul, Addr.add_add]
  have e2 : (l.drop k).getD i noT = l.getD (k + i) noT := by simp [List.getD]
  rw [e1, e2]
  exact h1
end Bw
end Go.Proofs.YtnhnemmddgofnaaDoor
