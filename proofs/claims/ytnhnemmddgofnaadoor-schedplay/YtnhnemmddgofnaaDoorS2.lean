/- What sched.ask has at hand: between tasks, and amid one task's messages. -/
import Derived.Test.YtnhnemmddgofnaaDoorD1
import Derived.Test.YtnhnemmddgofnaaDoorC5
import Derived.Test.YtnhnemmddgofnaaDoorSbAsk
import Derived.Test.YtnhnemmddgofnaaDoorAppTwo
import Derived.Laws.OwnMore
import Derived.Test.YtnhnemmddgofnaaDoorDlTakes
namespace Go.Proofs.YtnhnemmddgofnaaDoor
open Go.ChangeShapes Go.WideShapes Go.ChangeAt Go.RowKit
namespace Bw
open Sb (Ms)
set_option linter.unusedVariables false
theorem blkS_lt {w : World} {a : Addr} {v : Value} (hc : w.cell? a = some v) : a.block < w.heap.size := by
  rcases Nat.lt_or_ge a.block w.heap.size with h | h
  · exact h
  · unfold World.cell? at hc
    rw [Array.getElem?_eq_none h] at hc
    simp at hc
theorem addS_block (x : Addr) (i : Nat) : (x.add i).block = x.block := by unfold Addr.add; split <;> rfl
/-- a cell of a block that has not turned -/
theorem cell_tch {gs : List Nat} {w w' : World} (ht : Tch gs w w') {a : Addr} {v : Value} (hc : w.cell? a = some v) (hn : a.block ∉ gs) : w'.cell? a = some v := by
  have hlt := blkS_lt hc
  unfold World.cell? at hc ⊢
  rw [ht.block _ hlt hn]
  exact hc
/-- numbers in a row -/
structure IsNs (w : World) (a : Option Addr) (n cap : Nat) (l : List Int) : Prop where
  len : l.length = n
  le : n ≤ cap
  max : cap ≤ maxLen
  none : a = none → n = 0
  cell : ∀ x, a = some x → ∀ i, i < n → w.cell? (x.add i) = some (.int .i64 (l.getD i 0))
theorem IsNs.kept {w w' : World} {a : Option Addr} {n cap : Nat} {l : List Int} (h : IsNs w a n cap l) (hb : Below w.heap.size w w') : IsNs w' a n cap l :=
  ⟨h.len, h.le, h.max, h.none, fun x hx i hi => cell_kept hb (h.cell x hx i hi)⟩
theorem IsNs.turn {gs : List Nat} {w w' : World} {a : Option Addr} {n cap : Nat} {l : List Int} (h : IsNs w a n cap l) (ht : Tch gs w w') (hg : ∀ x, a = some x → 0 < n → x.block ∉ gs) : IsNs w' a n cap l :=
  ⟨h.len, h.le, h.max, h.none, fun x hx i hi => cell_tch ht (h.cell x hx i hi) (by rw [addS_block]; exact hg x hx (by omega))⟩
theorem IsNs.some {w : World} {a : Option Addr} {n cap : Nat} {l : List Int} (h : IsNs w a n cap l) {i : Nat} (hi : i < n) : ∃ x, a = some x := by
  cases a with
  | none => exact absurd (h.none rfl) (by omega)
  | some x => exact ⟨x, rfl⟩
/-- messages in a row that lies from block B on -/
structure MsRow (w : World) (a : Option Addr) (m c : Nat) (L : List Ms) (B : Nat) : Prop where
  len : L.length = m
  le : m ≤ c
  max : c ≤ maxLen
  none : a = none → m = 0
  blk : ∀ x, a = some x → B ≤ x.block ∧ x.block < w.heap.size ∧ x = ⟨x.block, x.off, Option.none⟩
  cell : ∀ x, a = some x → ∀ i, i < m → w.cell? (x.add (i * 2)) = some (.int .i64 ((L.getD i (0, 0)).1 : Nat)) ∧ w.cell? ⟨(x.add (i * 2)).block, (x.add (i * 2)).off + 1, Option.none⟩ = some (.int .i64 ((L.getD i (0, 0)).2 : Nat))
theorem MsRow.turn {gs : List Nat} {w w' : World} {a : Option Addr} {m c : Nat} {L : List Ms} {B : Nat} (h : MsRow w a m c L B) (ht : Tch gs w w') (hg : ∀ x, a = some x → x.block ∉ gs) : MsRow w' a m c L B :=
  ⟨h.len, h.le, h.max, h.none, fun x hx => ⟨(h.blk x hx).1, Nat.lt_of_lt_of_le (h.blk x hx).2.1 ht.size, (h.blk x hx).2.2⟩, fun x hx i hi => ⟨cell_tch ht (h.cell x hx i hi).1 (by rw [addS_block]; exact hg x hx), cell_tch ht (h.cell x hx i hi).2 (by show (x.add (i * 2)).block ∉ gs; rw [addS_block]; exact hg x hx)⟩⟩
theorem MsRow.kept {w w' : World} {a : Option Addr} {m c : Nat} {L : List Ms} {B : Nat} (h : MsRow w a m c L B) (hb : Below w.heap.size w w') : MsRow w' a m c L B :=
  h.turn (Tch.of (gs := []) hb) (fun x _ => by simp)
def msCs (L : List Ms) : List Value := L.flatMap fun m => [.int .i64 (m.1 : Nat), .int .i64 (m.2 : Nat)]
theorem msCs_len : ∀ L : List Ms, (msCs L).length = L.length * 2
  | [] => rfl
  | m :: L => by
    have := msCs_len L
    unfold msCs at this ⊢
    rw [List.flatMap_cons, List.length_append, this, List.length_cons]
    simp only [List.length_cons, List.length_nil]
    omega
theorem msCs_snoc (L : List Ms) (m : Ms) : msCs (L ++ [m]) = msCs L ++ [.int .i64 (m.1 : Nat), .int .i64 (m.2 : Nat)] := by unfold msCs; simp
theorem msCs_at : ∀ {L : List Ms} {i : Nat}, i < L.length → (msCs L)[i * 2]? = some (.int .i64 ((L.getD i (0, 0)).1 : Nat)) ∧ (msCs L)[i * 2 + 1]? = some (.int .i64 ((L.getD i (0, 0)).2 : Nat))
  | [], _, h => by simp at h
  | m :: L, 0, _ => ⟨rfl, rfl⟩
  | m :: L, i + 1, h => by
    have h1 := msCs_at (L := L) (i := i) (by simp at h; omega)
    have e : msCs (m :: L) = .int .i64 (m.1 : Nat) :: .int .i64 (m.2 : Nat) :: msCs L := rfl
    rw [e, show (i + 1) * 2 = i * 2 + 1 + 1 by omega, List.getElem?_cons_succ, List.getElem?_cons_succ, List.getElem?_cons_succ, List.getElem?_cons_succ]
    exact h1
theorem add_oneS (g k : Nat) : (⟨g, 0, none⟩ : Addr).add (k + 1) = ⟨((⟨g, 0, none⟩ : Addr).add k).block, ((⟨g, 0, none⟩ : Addr).add k).off + 1, none⟩ := by
  rw [← Addr.add_add]
  unfold Addr.add
  by_cases hz : k = 0 <;> simp [hz]
/-- a row of one's own as one that is read -/
theorem ms_own {w : World} {base : Nat} {v : Value} {L : List Ms} {n : Nat} (h : w.ownsRow base 73 2 v n (msCs L)) (hn : n = L.length) : ∃ a c, v = .slice a n c ∧ MsRow w a n c L base ∧ (∀ x, a = some x → v.ownBlock = some x.block) := by
  rcases h.2 with ⟨h1, h2⟩ | ⟨g, c, cur, h1, hb, hg, hnc, hcm, hcs, htk⟩
  · subst h2
    exact ⟨none, 0, h1, ⟨hn.symm, Nat.le_refl _, Nat.zero_le _, fun _ => rfl, fun x hx => (by cases hx), fun x hx => (by cases hx)⟩, fun x hx => (by cases hx)⟩
  · refine ⟨_, c, h1, ⟨hn.symm, hnc, hcm, fun e => (by cases e), fun x hx => ?_, fun x hx i hi => ?_⟩, fun x hx => ?_⟩
    · cases hx
      exact ⟨hb, lt_of_block hg, rfl⟩
    · cases hx
      rw [h1] at h
      obtain ⟨e1, e2⟩ := msCs_at (L := L) (i := i) (by omega)
      have q1 := h.cells (g := g) rfl _ _ e1
      have q2 := h.cells (g := g) rfl _ _ e2
      refine ⟨q1, ?_⟩
      rw [← add_oneS]
      exact q2
    · cases hx
      rw [h1]
      rfl
/-- rows of messages: one's own list of them -/
structure OwnQ (w : World) (base : Nat) (v : Value) (Q : List (List Ms)) : Prop where
  row : ∃ vs, w.ownsRow base 71 1 v Q.length vs ∧ vs.length = Q.length ∧ ∀ i, i < Q.length → ∃ a m c, vs[i]? = some (.slice a m c) ∧ MsRow w a m c (Q.getD i []) base ∧ (∀ x, a = some x → v.ownBlock ≠ some x.block)
theorem OwnQ.nil (w : World) (base : Nat) : OwnQ w base (.slice none 0 0) [] := ⟨[], World.ownsRow_nil _ _ _ _, rfl, fun i hi => absurd hi (Nat.not_lt_zero _)⟩
theorem ownsRow_tch {gs : List Nat} {w w' : World} {base : Nat} {e : TypeId} {size : Nat} {v : Value} {n : Nat} {xs : List Value} (h : w.ownsRow base e size v n xs) (ht : Tch gs w w') (hg : ∀ k, v.ownBlock = some k → k ∉ gs) : w'.ownsRow base e size v n xs := by
  obtain ⟨h1, h2⟩ := h
  refine ⟨h1, ?_⟩
  rcases h2 with h2 | ⟨g, cap, cur, hv, hgb, hh, r⟩
  · exact Or.inl h2
  · subst hv
    refine Or.inr ⟨g, cap, cur, rfl, hgb, ?_, r⟩
    rw [ht.block g (lt_of_block hh) (hg g rfl)]
    exact hh
theorem OwnQ.turn {gs : List Nat} {w w' : World} {base : Nat} {v : Value} {Q : List (List Ms)} (h : OwnQ w base v Q) (ht : Tch gs w w') (hg : ∀ g ∈ gs, g < base) : OwnQ w' base v Q := by
  obtain ⟨vs, h1, h2, h3⟩ := h.row
  refine ⟨vs, ownsRow_tch h1 ht (fun k hk hm => ?_), h2, fun i hi => ?_⟩
  · have := (h1.lt k hk).1
    have := hg k hm
    omega
  · obtain ⟨a, m, c, e1, e2, e3⟩ := h3 i hi
    refine ⟨a, m, c, e1, e2.turn ht (fun x hx hm => ?_), e3⟩
    have := (e2.blk x hx).1
    have := hg _ hm
    omega
/-- one more -/
theorem OwnQ.add {w w' : World} {base : Nat} {v v' : Value} {Q : List (List Ms)} {a : Option Addr} {m c : Nat} {L : List Ms} (h : OwnQ w base v Q) (hm : MsRow w a m c L base) (hva : ∀ x, a = some x → v.ownBlock ≠ some x.block)
    {vs : List Value} (hvs : w.ownsRow base 71 1 v Q.length vs) (hrow : w'.ownsRow base 71 1 v' (Q.length + 1) (vs ++ [.slice a m c])) (hg : w.grownBy w' v.ownBlock) (hb : v'.ownBlock = v.ownBlock ∨ v'.ownBlock = some w.heap.size)
    (hall : vs.length = Q.length ∧ ∀ i, i < Q.length → ∃ a m c, vs[i]? = some (.slice a m c) ∧ MsRow w a m c (Q.getD i []) base ∧ (∀ x, a = some x → v.ownBlock ≠ some x.block)) : OwnQ w' base v' (Q ++ [L]) := by
  have ht : ∀ {a : Option Addr} {m c : Nat} {L : List Ms}, MsRow w a m c L base → (∀ x, a = some x → v.ownBlock ≠ some x.block) → MsRow w' a m c L base ∧ (∀ x, a = some x → v'.ownBlock ≠ some x.block) := by
    intro a m c L h1 h2
    have hcell : ∀ {y : Addr} {u : Value}, w.cell? y = some u → v.ownBlock ≠ some y.block → w'.cell? y = some u := by
      intro y u hc hy
      have hlt := blkS_lt hc
      unfold World.cell? at hc ⊢
      rw [hg.block _ hlt (fun e => hy e.symm)]
      exact hc
    refine ⟨⟨h1.len, h1.le, h1.max, h1.none, fun x hx => ⟨(h1.blk x hx).1, Nat.lt_of_lt_of_le (h1.blk x hx).2.1 hg.size, (h1.blk x hx).2.2⟩, fun x hx i hi => ⟨hcell (h1.cell x hx i hi).1 (by rw [addS_block]; exact h2 x hx), hcell (h1.cell x hx i hi).2 (by show v.ownBlock ≠ some (x.add (i * 2)).block; rw [addS_block]; exact h2 x hx)⟩⟩, fun x hx => ?_⟩
    rcases hb with hb | hb
    · rw [hb]; exact h2 x hx
    · rw [hb]
      intro e
      have := Option.some.inj e
      have := (h1.blk x hx).2.1
      omega
  refine ⟨vs ++ [.slice a m c], by rw [List.length_append]; exact hrow, by simp [hall.1], fun i hi => ?_⟩
  rw [List.length_append, List.length_singleton] at hi
  by_cases e : i = Q.length
  · subst e
    refine ⟨a, m, c, by rw [List.getElem?_append_right (by omega), hall.1, Nat.sub_self]; rfl, ?_⟩
    have : (Q ++ [L]).getD Q.length [] = L := by simp [List.getD]
    rw [this]
    exact ht hm hva
  · obtain ⟨a', m', c', e1, e2, e3⟩ := hall.2 i (by omega)
    refine ⟨a', m', c', by rw [List.getElem?_append_left (by omega)]; exact e1, ?_⟩
    have : (Q ++ [L]).getD i [] = Q.getD i [] := by simp [List.getD, List.getElem?_append_left (show i < Q.length by omega)]
    rw [this]
    exact ht e2 e3
/-- the memory of what is late -/
structure LtAt (w : World) (b p : Nat) (a : Option Addr) (m c : Nat) (lt : List Int) (k : Nat) : Prop where
  box : w.cell? ⟨b, 0, none⟩ = some (.slice a m c)
  pos : BoxAt w p 3 (.int .i64 (k % m : Nat))
  row : IsNs w a m c lt
  bp : b ≠ p
  far : ∀ x, a = some x → 0 < m → x.block ≠ p
theorem LtAt.kept {w w' : World} {b p : Nat} {a : Option Addr} {m c : Nat} {lt : List Int} {k : Nat} (h : LtAt w b p a m c lt k) (hb : Below w.heap.size w w') : LtAt w' b p a m c lt k :=
  ⟨cell_kept hb h.box, h.pos.kept hb, h.row.kept hb, h.bp, h.far⟩
theorem LtAt.put {w : World} {b p : Nat} {a : Option Addr} {m c : Nat} {lt : List Int} {k : Nat} (h : LtAt w b p a m c lt k) {k' : Nat} {i : Int} (hi : i = (k' % m : Nat)) : LtAt (w.setCell ⟨p, 0, none⟩ (.int .i64 i)) b p a m c lt k' ∧ Tch [p] w (w.setCell ⟨p, 0, none⟩ (.int .i64 i)) := by
  subst hi
  have ht : Tch [p] w (w.setCell ⟨p, 0, none⟩ (.int .i64 (k' % m : Nat))) := (Tch.refl [p] w).set (List.mem_singleton.2 rfl) _
  refine ⟨⟨cell_tch ht h.box (by simp [h.bp]), h.pos.set _, h.row.turn ht (fun x hx h0 => by simp [h.far x hx h0]), h.bp, h.far⟩, ht⟩
def ltV (b p : Nat) : Value := .func (.func 29) #[] #[.pointer (some ⟨b, 0, none⟩), .pointer (some ⟨p, 0, none⟩)]
end Bw
end Go.Proofs.YtnhnemmddgofnaaDoor
namespace Go.Proofs.YtnhnemmddgofnaaDoor
open Go.ChangeShapes Go.WideShapes Go.ChangeAt Go.RowKit
namespace Bw
set_option linter.unusedVariables false
theorem allocQ (w : World) (o : Obj) : (w.alloc o).heap.size = w.heap.size + 1 := Array.size_push _
theorem istime_any (n : Int) (w : World) : Calls Tryd.prog 17 #[.int .i64 n] w fun e w' => e = .returned (.bool (Sb.isTm n)) ∧ w' = w := by
  unfold Sb.isTm
  by_cases h0 : 0 ≤ n
  · rw [decide_eq_true h0, Bool.true_and]
    have hd : decide (0 ≤ n) = true := decide_eq_true h0
    go_enter Tryd.func17, Tryd.ntmps17
    go_wp2_with fail
    go_ret
    exact ⟨rfl, rfl⟩
  · rw [decide_eq_false h0, Bool.false_and]
    have hd : decide (0 ≤ n) = false := decide_eq_false h0
    go_enter Tryd.func17, Tryd.ntmps17
    go_wp2_with fail
    go_ret
    exact ⟨rfl, rfl⟩
set_option maxHeartbeats 1000000 in
theorem stakes_any (r : Tk) (w : World) (hr : okT r = true) (hS : SizesAt w) (hR : RulesAt w) :
    Calls Tryd.prog 33 #[r.val] w fun e w' => e = .returned (.int .i64 (cN r : Nat)) ∧ Below w.heap.size w w' := by
  obtain ⟨h1, h2, h3, h4, h5, h6, h7, h8, h9, h10⟩ := okT_n hr
  have hb := awD w (tkC r)
  have HB := Hid.mk hb
  have HC := Hid.mk (frLong_any false false (r.by_.toNat : Int) (w.alloc (tkC r)) (hS.kept hb) (hR.kept hb))
  rw [longA_short h9] at HC
  have he : ((52 + 10 * r.by_.toNat : Nat) : Int) + 3 = (cN r : Int) := by unfold cN; omega
  have hE : ((52 + 10 * r.by_.toNat : Nat) : Int) ≤ 200 := by omega
  have hE0 : 0 ≤ ((52 + 10 * r.by_.toNat : Nat) : Int) := by omega
  rw [← h10] at HC
  generalize ((52 + 10 * r.by_.toNat : Nat) : Int) = E at *
  obtain ⟨id, by_, ev, la, ji⟩ := r
  generalize cN ⟨id, by_, ev, la, ji⟩ = C at *
  unfold tkC at HB HC
  unfold Tk.val
  simp only at *
  have HE := Hid.mk he
  clear hb hS hR hr h1 h2 h3 h4 h5 h6 h7 h8 h9 h10 he
  go_enter Tryd.func33, Tryd.ntmps33
  go_wp2_with fail
  refine HC.out.mono ?_
  rintro e w1 ⟨rfl, hb1⟩
  have HB1 := Hid.mk (bl2 HB.out hb1)
  clear hb1 HC
  go_wp2_with fail
  go_ret
  refine ⟨?_, HB1.out⟩
  rw [← HE.out]
  rfl
theorem enter_lt : ∀ args w, (callFunc 29 args).run Tryd.prog w = .ok (.enter 29 args) w := enters_of Tryd.func29 (by kernel_rfl) rfl
/-- the maker of what is late -/
theorem lateOf_any (a : Option Addr) (m c : Nat) (lt : List Int) (w : World) (hI : IsNs w a m c lt) (hlt : ∀ x, a = some x → 0 < m → x.block < w.heap.size) :
    Calls Tryd.prog 19 #[.slice a m c] w fun e w' => ∃ b p, e = .returned (ltV b p) ∧ LtAt w' b p a m c lt 0 ∧ w.heap.size ≤ b ∧ w.heap.size ≤ p ∧ p < w'.heap.size ∧ Below w.heap.size w w' := by
  have hb1 := awD w (.cells #[.slice a m c] 23)
  have hb2 := awD (w.alloc (.cells #[.slice a m c] 23)) (.cells #[.int .i64 0] 3)
  have hb := bl2 hb1 hb2
  have HL : Hid (LtAt ((w.alloc (.cells #[.slice a m c] 23)).alloc (.cells #[.int .i64 0] 3)) w.heap.size (w.heap.size + 1) a m c lt 0) := Hid.mk ⟨cell_kept hb2 (cell_of_row _ _ 0 _ _ _ (heap_alloc_new w _)), (by
      unfold BoxAt
      have h := heap_alloc_new (w.alloc (.cells #[.slice a m c] 23)) (.cells #[.int .i64 0] 3)
      rw [show (w.alloc (.cells #[.slice a m c] 23)).heap.size = w.heap.size + 1 from allocQ ..] at h
      rw [Nat.zero_mod]
      exact h), hI.kept hb, by omega, fun x hx h0 => by have := hlt x hx h0; omega⟩
  have HB := Hid.mk hb
  clear hb1 hb2 hb hI hlt
  unfold ltV
  go_enter Tryd.func19, Tryd.ntmps19
  go_wp2_with fail
  go_ret
  exact ⟨w.heap.size, w.heap.size + 1, rfl, HL.out, Nat.le_refl _, by omega, by simp, HB.out⟩
end Bw
end Go.Proofs.YtnhnemmddgofnaaDoor
namespace Go.Proofs.YtnhnemmddgofnaaDoor
open Go.ChangeShapes Go.WideShapes Go.ChangeAt Go.RowKit
namespace Bw
set_option linter.unusedVariables false
theorem mod_next (k m : Nat) : (k % m + 1) % m = (k + 1) % m := by rw [Nat.mod_add_mod]
theorem wrap_small {R : Int} (h1 : -1000000000 ≤ R) (h2 : R ≤ 1000000000) : IntKind.i64.wrap R = R := by rw [IntKind.wrap_i64]; omega
set_option maxHeartbeats 4000000 in
set_option maxRecDepth 100000 in
theorem late_any (x : Tk) (b p : Nat) (a : Option Addr) (m c : Nat) (lt : List Int) (k : Nat) (w : World) (hx : okT x = true) (hL : LtAt w b p a m c lt k) (hm : m ≤ 1000) :
    Calls Tryd.prog 29 #[x.val, .pointer (some ⟨b, 0, none⟩), .pointer (some ⟨p, 0, none⟩)] w fun e w' => ∃ N : Int, e = .returned (.tuple #[.int .i64 N, .bool (!Sb.badL x lt k)]) ∧ (Sb.badL x lt k = false → N = (Sb.lateN x lt k : Nat)) ∧ LtAt w' b p a m c lt (Sb.nextK x lt k) ∧ Tch [p] w w' := by
  obtain ⟨q1, q2, q3, q4, q5, q6, q7, -⟩ := okT_n hx
  have hb := awD w (tkC x)
  have HL1 := Hid.mk (hL.kept hb)
  have HT := Hid.mk (Tch.of (gs := [p]) hb)
  have HV := Hid.mk (TkAt.new w x)
  have hlen := hL.row.len
  have hps := hL.pos.lt
  have hnp : w.heap.size ≠ p := by omega
  by_cases h0 : Sb.takesL x lt = true
  · have hj : jN x ≠ 0 ∧ m ≠ 0 := by unfold Sb.takesL at h0; rw [hlen] at h0; simpa using h0
    obtain ⟨y, rfl⟩ := hL.row.some (i := k % m) (Nat.mod_lt _ (by omega))
    have hcell := HL1.out.row.cell y rfl (k % m) (Nat.mod_lt _ (by omega))
    have hbox := HL1.out.box
    have hpos := HL1.out.pos.cell
    have hfr := HL1.out.pos.frozen
    obtain ⟨V, hV⟩ : ∃ V, V = lt.getD (k % m) 0 := ⟨_, rfl⟩
    rw [← hV] at hcell
    have HBAD : Hid (Sb.badL x lt k = decide (V < 0)) := Hid.mk (by unfold Sb.badL Sb.lv; rw [h0, hlen, ← hV]; rfl)
    have HLATE : Hid (Sb.lateN x lt k = V.toNat % (jN x + 1)) := Hid.mk (by unfold Sb.lateN Sb.lv; rw [if_pos h0, hlen, ← hV])
    have HNEXT : Hid (Sb.nextK x lt k = k + 1) := Hid.mk (by unfold Sb.nextK; rw [if_pos h0])
    obtain ⟨R, hR⟩ : ∃ R, R = V.tmod (x.ji + 1) := ⟨_, rfl⟩
    have hji : x.ji ≤ 999999 := by omega
    have hjp : 0 < x.ji := by omega
    have hR1 : R < x.ji + 1 := by rw [hR]; exact Int.tmod_lt_of_pos V (by omega)
    have hR2 : -(x.ji + 1) < R := by rw [hR]; have h1 := Int.tmod_lt_of_pos (-V) (show 0 < x.ji + 1 by omega); rw [Int.neg_tmod] at h1; omega
    have HRE : Hid (¬ V < 0 → R = ((V.toNat % (jN x + 1) : Nat) : Int)) := Hid.mk (by
      intro hv
      rw [hR, q7]
      obtain ⟨n, hn⟩ : ∃ n : Nat, V = n := ⟨V.toNat, by omega⟩
      rw [hn]
      rfl)
    have e1 : V.tmod (x.ji + 1) = R := hR.symm
    have e2 : IntKind.i64.wrap R = R := wrap_small (by omega) (by omega)
    have hK1 := mod_next k m
    have hKm := Nat.mod_lt k (show m > 0 by omega)
    obtain ⟨K, hK⟩ : ∃ K, K = k % m := ⟨_, rfl⟩
    rw [← hK] at hK1 hKm hcell hpos
    have hk2 := Nat.mod_lt (k + 1) (show m > 0 by omega)
    have e3 : ((K : Int) + 1).tmod (m : Int) = (((k + 1) % m : Nat) : Int) := by
      rw [← hK1, show ((K : Int) + 1) = ((K + 1 : Nat) : Int) by omega]
      rfl
    obtain ⟨U, hU⟩ : ∃ U : Int, U = (((k + 1) % m : Nat) : Int) := ⟨_, rfl⟩
    rw [← hU] at e3
    have e4 : IntKind.i64.wrap U = U := wrap_small (by omega) (by omega)
    have HPUT := Hid.mk (HL1.out.put (k' := k + 1) (i := U) hU)
    have HPUT0 := Hid.mk (hL.put (k' := k + 1) (i := U) hU)
    have HBW := Hid.mk (awD (w.setCell ⟨p, 0, none⟩ (.int .i64 U)) (tkC x))
    have hmm : ¬ (m : Int) = 0 := by omega
    have hmm' : ((m : Int) == 0) = false := by simpa using hmm
    have hKb : (K : Int) ≤ 1000 := by omega
    have hKlt : (K : Int) < (m : Int) := by omega
    have hm' : (m : Int) ≤ 1000 := by omega
    have HVn := Hid.mk hV
    obtain ⟨id, by_, ev, la, ji⟩ := x
    unfold tkC at HL1 HT HV hcell hbox hpos hfr HPUT HBW
    unfold Tk.val
    simp only at hji hjp hR1 hR2 e1 HL1 HT HV hcell hbox hpos hfr HPUT HBW
    have hjz : ¬ ji + 1 = 0 := by omega
    have hje : (ji == 0) = false := by rw [beq_eq_false_iff_ne]; omega
    have g4 := HV.out.c4
    simp only at g4
    have g5 : ((w.alloc (.cells #[.int .i64 id, .int .i64 by_, .int .i64 ev, .int .i64 la, .int .i64 ji] 31)).setCell ⟨p, 0, none⟩ (.int .i64 U)).cell? ⟨w.heap.size, 4, none⟩ = some (.int .i64 ji) := cell_tch HPUT.out.2 g4 (by simp; omega)
    clear hV hR hK hK1 hKm hk2 hU q1 q2 q3 q4 q5 q6 q7 hj h0 hL hx hb hlen hm
    go_enter Tryd.func29, Tryd.ntmps29
    go_wp2_with fail
    go_ret2
    refine ⟨R, ?_, ?_, ?_, ?_⟩
    · rw [HBAD.out]
      by_cases hv : V < 0
      · rw [decide_eq_true hv, decide_eq_false (show ¬ 0 ≤ V by omega)]; rfl
      · rw [decide_eq_false hv, decide_eq_true (show 0 ≤ V by omega)]; rfl
    · intro h
      rw [HBAD.out] at h
      rw [HLATE.out]
      exact HRE.out (by simpa using h)
    · rw [HNEXT.out]; exact HPUT0.out.1.kept HBW.out
    · exact HPUT0.out.2.trans (Tch.of HBW.out)
  · have hno : Sb.takesL x lt = false := by simpa using h0
    have HBAD : Hid (Sb.badL x lt k = false) := Hid.mk (by unfold Sb.badL; rw [hno]; rfl)
    have HLATE : Hid (Sb.lateN x lt k = 0) := Hid.mk (by unfold Sb.lateN; rw [hno]; rfl)
    have HNEXT : Hid (Sb.nextK x lt k = k) := Hid.mk (by unfold Sb.nextK; rw [hno]; rfl)
    have hbox := HL1.out.box
    by_cases hj0 : jN x = 0
    · have hji : x.ji = 0 := by omega
      obtain ⟨id, by_, ev, la, ji⟩ := x
      simp only at hji
      subst hji
      unfold tkC at HL1 HT HV hbox
      unfold Tk.val
      simp only at HL1 HT HV hbox
      have g4 := HV.out.c4
      simp only at g4
      clear q1 q2 q3 q4 q5 q6 q7 hj0 h0 hno hL hx hb hlen hm
      go_enter Tryd.func29, Tryd.ntmps29
      go_wp2_with fail
      go_ret2
      refine ⟨0, ?_, ?_, ?_, HT.out⟩
      · rw [HBAD.out]; rfl
      · intro h; rw [HLATE.out]; rfl
      · rw [HNEXT.out]; exact HL1.out
    · have hm0 : m = 0 := by
        unfold Sb.takesL at hno
        rw [hlen] at hno
        rcases Nat.eq_zero_or_pos m with h | h
        · exact h
        · simp [hj0, show m ≠ 0 by omega] at hno
      subst hm0
      have hji : 0 < x.ji := by omega
      obtain ⟨id, by_, ev, la, ji⟩ := x
      simp only at hji
      have hje : (ji == 0) = false := by rw [beq_eq_false_iff_ne]; omega
      unfold tkC at HL1 HT HV hbox
      unfold Tk.val
      simp only at HL1 HT HV hbox
      have g4 := HV.out.c4
      simp only at g4
      clear q1 q2 q3 q4 q5 q6 q7 hj0 h0 hno hL hx hb hlen hm
      go_enter Tryd.func29, Tryd.ntmps29
      go_wp2_with fail
      go_ret2
      refine ⟨0, ?_, ?_, ?_, HT.out⟩
      · rw [HBAD.out]; rfl
      · intro h; rw [HLATE.out]; rfl
      · rw [HNEXT.out]; exact HL1.out
end Bw
end Go.Proofs.YtnhnemmddgofnaaDoor
namespace Go.Proofs.YtnhnemmddgofnaaDoor
open Go.ChangeShapes Go.WideShapes Go.ChangeAt Go.RowKit
namespace Bw
open Sb (Ms)
set_option linter.unusedVariables false
theorem Tch.grown {gs : List Nat} {w a b : World} {row : Option Nat} (h : Tch gs w a) (hg : a.grownBy b row) (hr : ∀ k, row = some k → w.heap.size ≤ k) : Tch gs w b :=
  ⟨hg.os.trans h.os, hg.tape.trans h.tape, hg.output.trans h.output, Nat.le_trans h.size hg.size, fun k hk hn => (hg.block k (Nat.lt_of_lt_of_le hk h.size) (fun e => by have := hr k e.symm; omega)).trans (h.block k hk hn)⟩
theorem IsTks.old {w0 w : World} {a : Option Addr} {n c : Nat} {l : List Tk} (h : IsTks w0 a n c l) (hb : Below w0.heap.size w0 w) : IsTks w a n c l := h.kept hb
theorem TkAt.turn {gs : List Nat} {w w' : World} {g : Nat} {x : Tk} (h : TkAt w g x) (ht : Tch gs w w') (hg : g ∉ gs) : TkAt w' g x :=
  ⟨cell_tch ht h.c0 hg, cell_tch ht h.c1 hg, cell_tch ht h.c2 hg, cell_tch ht h.c3 hg, cell_tch ht h.c4 hg⟩
theorem cell_grown {w w' : World} {row : Option Nat} (hg : w.grownBy w' row) {y : Addr} {u : Value} (hc : w.cell? y = some u) (hy : row ≠ some y.block) : w'.cell? y = some u := by
  have hlt := blkS_lt hc
  unfold World.cell? at hc ⊢
  rw [hg.block _ hlt (fun e => hy e.symm)]
  exact hc
theorem LtAt.grown {w w' : World} {b p : Nat} {a : Option Addr} {m c : Nat} {lt : List Int} {k B : Nat} {row : Option Nat} (h : LtAt w b p a m c lt k) (hg : w.grownBy w' row) (hr : ∀ q, row = some q → B ≤ q) (hb : b < B) (hp : p < B) (ha : ∀ x, a = some x → 0 < m → x.block < B) : LtAt w' b p a m c lt k := by
  have hn : ∀ q, q < B → row ≠ some q := fun q hq e => by have := hr q e; omega
  refine ⟨cell_grown hg h.box (hn b hb), ?_, ⟨h.row.len, h.row.le, h.row.max, h.row.none, fun x hx i hi => cell_grown hg (h.row.cell x hx i hi) (by rw [addS_block]; exact hn _ (ha x hx (by omega)))⟩, h.bp, h.far⟩
  have := h.pos
  unfold BoxAt at this ⊢
  rw [hg.block p h.pos.lt (fun e => hn p hp e.symm)]
  exact this
/-- where all lies -/
structure AkP (w0 w : World) (b p : Nat) (a : Option Addr) (m : Nat) : Prop where
  old : w0.heap.size ≤ p
  p : p < w.heap.size
  b : b < w.heap.size
  a : ∀ x, a = some x → 0 < m → x.block < w.heap.size
/-- between tasks -/
structure AkO (w0 w wr : World) (b p : Nat) (a : Option Addr) (m c : Nat) (lt : List Int) (kk : Nat) (vO : Value) (M : List (List Ms)) : Prop where
  pl : AkP w0 w b p a m
  old : Below w0.heap.size w0 wr
  tch : Tch [p] w wr
  late : LtAt wr b p a m c lt kk
  out : OwnQ wr w.heap.size vO M
theorem AkO.start {w0 w : World} {b p : Nat} {a : Option Addr} {m c : Nat} {lt : List Int} {kk : Nat} (hp : AkP w0 w b p a m) (ho : Below w0.heap.size w0 w) (hl : LtAt w b p a m c lt kk) : AkO w0 w w b p a m c lt kk (.slice none 0 0) [] :=
  ⟨hp, ho, Tch.refl _ _, hl, OwnQ.nil _ _⟩
theorem AkO.kept {w0 w wr wz : World} {b p : Nat} {a : Option Addr} {m c : Nat} {lt : List Int} {kk : Nat} {vO : Value} {M : List (List Ms)} (h : AkO w0 w wr b p a m c lt kk vO M) (hb : Below wr.heap.size wr wz) : AkO w0 w wz b p a m c lt kk vO M :=
  ⟨h.pl, bl2 h.old hb, h.tch.trans (Tch.of hb), h.late.kept hb, h.out.turn (Tch.of (gs := []) hb) (fun g hg => by cases hg)⟩
/-- amid one task's: since the world W -/
structure AkI (W wz : World) (b p : Nat) (a : Option Addr) (m c : Nat) (lt : List Int) (kk : Nat) (v : Value) (ms : List Ms) : Prop where
  tch : Tch [p] W wz
  late : LtAt wz b p a m c lt kk
  own : wz.ownsRow W.heap.size 73 2 v ms.length (msCs ms)
theorem AkO.amid {w0 w wr : World} {b p : Nat} {a : Option Addr} {m c : Nat} {lt : List Int} {kk : Nat} {vO : Value} {M : List (List Ms)} (h : AkO w0 w wr b p a m c lt kk vO M) : AkI wr wr b p a m c lt kk (.slice none 0 0) [] :=
  ⟨Tch.refl _ _, h.late, World.ownsRow_nil _ _ _ _⟩
theorem AkO.old2 {w0 w W wz : World} {b p : Nat} {a : Option Addr} {m c : Nat} {lt : List Int} {kk : Nat} {vO : Value} {M : List (List Ms)} (h : AkO w0 w W b p a m c lt kk vO M) (ht : Tch [p] W wz) : Below w0.heap.size w0 wz :=
  ht.below h.old (fun g hg => by rw [List.mem_singleton] at hg; subst hg; exact h.pl.old) (Nat.le_refl _)
theorem AkI.step {W wz w1 : World} {b p : Nat} {a : Option Addr} {m c : Nat} {lt : List Int} {kk kk' : Nat} {v : Value} {ms : List Ms} (h : AkI W wz b p a m c lt kk v ms) (hl : LtAt w1 b p a m c lt kk') (ht : Tch [p] wz w1) (hp : p < W.heap.size) : AkI W w1 b p a m c lt kk' v ms :=
  ⟨h.tch.trans ht, hl, ownsRow_tch h.own ht (fun k hk hm => by rw [List.mem_singleton] at hm; subst hm; have := (h.own.lt k hk).1; omega)⟩
theorem AkI.kept {W wz w1 : World} {b p : Nat} {a : Option Addr} {m c : Nat} {lt : List Int} {kk : Nat} {v : Value} {ms : List Ms} (h : AkI W wz b p a m c lt kk v ms) (hb : Below wz.heap.size wz w1) : AkI W w1 b p a m c lt kk v ms :=
  ⟨h.tch.trans (Tch.of hb), h.late.kept hb, ownsRow_below h.own hb⟩
theorem AkI.app {w0 w W w2 w3 : World} {b p : Nat} {a : Option Addr} {m c : Nat} {lt : List Int} {kk : Nat} {v v3 : Value} {ms : List Ms} {d q : Nat} (h : AkI W w2 b p a m c lt kk v ms) (hP : AkP w0 w b p a m) (hW : w.heap.size ≤ W.heap.size) (hrow : w3.ownsRow W.heap.size 73 2 v3 (ms.length + 1) (msCs ms ++ [.int .i64 (d : Nat), .int .i64 (q : Nat)])) (hg : w2.grownBy w3 v.ownBlock) : AkI W w3 b p a m c lt kk v3 (ms ++ [(d, q)]) := by
  have hr : ∀ k, v.ownBlock = some k → W.heap.size ≤ k := fun k hk => (h.own.lt k hk).1
  refine ⟨h.tch.grown hg hr, h.late.grown hg hr (by have := hP.b; omega) (by have := hP.p; omega) (fun x hx h0 => by have := hP.a x hx h0; omega), ?_⟩
  rw [msCs_snoc, List.length_append, List.length_singleton]
  exact hrow
theorem MsRow.base {w : World} {a : Option Addr} {m c : Nat} {L : List Ms} {B B' : Nat} (h : MsRow w a m c L B) (hB : B' ≤ B) : MsRow w a m c L B' :=
  ⟨h.len, h.le, h.max, h.none, fun x hx => ⟨Nat.le_trans hB (h.blk x hx).1, (h.blk x hx).2⟩, h.cell⟩
/-- one task's messages as a row beside all others -/
theorem AkO.done {w0 w W wz : World} {b p : Nat} {a : Option Addr} {m c : Nat} {lt : List Int} {kk kk' : Nat} {vO v : Value} {M : List (List Ms)} {ms : List Ms} (h : AkO w0 w W b p a m c lt kk vO M) (hi : AkI W wz b p a m c lt kk' v ms) :
    AkO w0 w wz b p a m c lt kk' vO M ∧ ∃ a2 c2, v = .slice a2 ms.length c2 ∧ MsRow wz a2 ms.length c2 ms w.heap.size ∧ (∀ x, a2 = some x → vO.ownBlock ≠ some x.block) := by
  refine ⟨⟨h.pl, h.old2 hi.tch, h.tch.trans hi.tch, hi.late, h.out.turn hi.tch (fun g hg => by rw [List.mem_singleton] at hg; subst hg; exact h.pl.p)⟩, ?_⟩
  obtain ⟨a2, c2, e1, e2, e3⟩ := ms_own hi.own rfl
  refine ⟨a2, c2, e1, e2.base h.tch.size, fun x hx e => ?_⟩
  obtain ⟨vs, h1, -⟩ := h.out.row
  have h2 := (h1.lt _ e).2
  have h3 := (e2.blk x hx).1
  omega
theorem AkO.app {w0 w w2 w3 : World} {b p : Nat} {a : Option Addr} {m c : Nat} {lt : List Int} {kk : Nat} {vO v3 : Value} {M : List (List Ms)} {ms : List Ms} {a2 : Option Addr} {m2 c2 : Nat} {vs : List Value} (h : AkO w0 w w2 b p a m c lt kk vO M) (hm : MsRow w2 a2 m2 c2 ms w.heap.size) (hva : ∀ x, a2 = some x → vO.ownBlock ≠ some x.block)
    (hvs : w2.ownsRow w.heap.size 71 1 vO M.length vs) (hall : vs.length = M.length ∧ ∀ i, i < M.length → ∃ a m c, vs[i]? = some (.slice a m c) ∧ MsRow w2 a m c (M.getD i []) w.heap.size ∧ (∀ x, a = some x → vO.ownBlock ≠ some x.block))
    (hrow : w3.ownsRow w.heap.size 71 1 v3 (M.length + 1) (vs ++ [.slice a2 m2 c2])) (hg : w2.grownBy w3 vO.ownBlock) (hb : v3.ownBlock = vO.ownBlock ∨ v3.ownBlock = some w2.heap.size) : AkO w0 w w3 b p a m c lt kk v3 (M ++ [ms]) := by
  have hr : ∀ k, vO.ownBlock = some k → w.heap.size ≤ k := fun k hk => (hvs.lt k hk).1
  have h0 : w0.heap.size ≤ w.heap.size := by have := h.pl.old; have := h.pl.p; omega
  exact ⟨h.pl, h.old.grown hg (by have := h.old.size; omega) (fun k hk => Nat.le_trans h0 (hr k hk)), h.tch.grown hg hr, h.late.grown hg hr h.pl.b h.pl.p h.pl.a, h.out.add hm hva hvs hrow hg hb hall⟩
end Bw
end Go.Proofs.YtnhnemmddgofnaaDoor
