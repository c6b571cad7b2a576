/- Drawn orders by a condition that every operation keeps. -/
import Derived.RegionTactic
import Derived.Deep.RegionHeld
import Derived.Test.YtgknolliicachaaDoorBigFrac
namespace Go.Proofs.YtgknolliicachaaDoor
open Go
namespace Oi
variable {P : Program} {ops : Array Oper} {Q : Exit → Act → World → Prop} {md : Region.Mode}
def cntF (l : Array Bool) : Nat := l.toList.count false
theorem cnt_set : ∀ (l : List Bool) (i : Nat), l[i]? = some false → (l.set i true).count false + 1 = l.count false
  | [], i, h => by simp at h
  | x :: xs, 0, h => by simp at h; subst h; simp
  | x :: xs, i + 1, h => by
    have := cnt_set xs i (by simpa using h)
    simp only [List.set_cons_succ, List.count_cons]
    omega
theorem cntF_set {l : Array Bool} {i : Nat} (h : l.getD i true = false) : cntF (l.setIfInBounds i true) + 1 = cntF l := by
  unfold cntF
  rw [Array.toList_setIfInBounds]
  refine cnt_set _ _ ?_
  rw [Array.getElem?_toList]
  rw [Array.getD_eq_getD_getElem?] at h
  cases hh : l[i]? with
  | none => rw [hh] at h; simp at h
  | some b => rw [hh] at h; simpa using h
theorem wpAny_inv (I : Array Bool → Act → World → Prop)
    (hfin : ∀ l a w, I l a w → Region.ready md ops l = [] → Q .normal a w)
    (hstep : ∀ l a w i o, I l a w → l.getD i true = false → ops[i]? = some o → (∀ e ∈ o.after, Region.binds md e = true → l.getD e.on false = true) →
      ∀ K : Act → World → Prop, Shut (∀ a' w', I (l.setIfInBounds i true) a' w' → K a' w') → if Region.wanted o (yielded ops a.tmps) = true then Oper.wp P o a w K Q else K (a.put o.dst undef) w) :
    ∀ (fuel : Nat) (l : Array Bool) (a : Act) (w : World), cntF l ≤ fuel → I l a w → wpAny P md ops Q fuel l a w
  | 0, l, a, w, hc, hI => by
    have hr : Region.ready md ops l = [] := List.eq_nil_iff_forall_not_mem.2 (fun i hi => by have := cntF_set (mem_ready.1 hi).1; omega)
    exact ⟨hr, hfin _ _ _ hI hr⟩
  | n + 1, l, a, w, hc, hI => ⟨hfin _ _ _ hI, fun i hi => by
      obtain ⟨h0, o, ho, hall⟩ := mem_ready.1 hi
      have hs := wpOp_step (Q := Q) (P := P) (K := I (l.setIfInBounds i true)) ho (fun K hK => hstep l a w i o hI h0 ho hall K hK)
      exact wpOp_mono (fun a' w' h' => wpAny_inv I hfin hstep n _ a' w' (by have := cntF_set h0; omega) h') hs⟩
theorem wpAny_start (I : Array Bool → Act → World → Prop) (l' : Array Bool) {l : Array Bool} {fuel : Nat} {a : Act} {w : World} (hl : l = l') (hc : decide (cntF l' ≤ fuel) = true) (hI : I l' a w)
    (hfin : ∀ l a w, I l a w → Region.ready md ops l = [] → Q .normal a w)
    (hstep : ∀ l a w i o, I l a w → l.getD i true = false → ops[i]? = some o → (∀ e ∈ o.after, Region.binds md e = true → l.getD e.on false = true) →
      ∀ K : Act → World → Prop, Shut (∀ a' w', I (l.setIfInBounds i true) a' w' → K a' w') → if Region.wanted o (yielded ops a.tmps) = true then Oper.wp P o a w K Q else K (a.put o.dst undef) w) : wpAny P md ops Q fuel l a w := by
  subst hl
  exact wpAny_inv I hfin hstep fuel _ a w (of_decide_eq_true hc) hI
theorem ready_nil {i : Nat} {o : Oper} {l : Array Bool} (h : Region.ready md ops l = []) (h0 : l.getD i true = false) (ho : ops[i]? = some o) (hall : ∀ e ∈ o.after, Region.binds md e = true → l.getD e.on false = true) : False := by
  have := mem_ready.2 ⟨h0, o, ho, hall⟩
  rw [h] at this
  cases this
end Oi
end Go.Proofs.YtgknolliicachaaDoor
namespace Go.Proofs.YtgknolliicachaaDoor
open Go.ChangeShapes Go.WideShapes Go.ChangeAt Go.RowKit Go.Sort
namespace Oi
open Ww Wm Sm
open Bw (Tch bl2 cell_kept)
def ptr (g o : Nat) : Value := .pointer (some ⟨g, o, none⟩)
def Box (b d : Bool) (r : Int) (n : Nat) (w : World) (g : Nat) (v : Value) : Prop :=
  b = true → v = ptr g 0 ∧ n ≤ g ∧ (∃ cs, BlkAt w g cs 68 ∧ IntV cs) ∧ (d = true → ZAt w g 0 r)
variable {b d : Bool} {r : Int} {n g : Nat} {v : Value} {W W' : World}
theorem Box.kept (h : Box b d r n W g v) (hb : Below W.heap.size W W') : Box b d r n W' g v := fun e => by
  obtain ⟨h1, h2, ⟨cs, h3, h4⟩, h5⟩ := h e
  exact ⟨h1, h2, ⟨cs, h3.kept hb, h4⟩, fun e => (h5 e).kept hb⟩
theorem Box.tch (h : Box b d r n W g v) {k : Nat} {cs : List Value} {T : TypeId} (hb : BlkAt W k cs T) (hn : NoW cs) (ht : Tch [k] W W') (hne : b = true → g ≠ k) : Box b d r n W' g v := fun e => by
  obtain ⟨h1, h2, ⟨cs, h3, h4⟩, h5⟩ := h e
  exact ⟨h1, h2, ⟨cs, h3.tch ht (by simpa using hne e), h4⟩, fun e' => (h5 e').tch hb hn ht (hne e)⟩
theorem Box.lt (h : Box b d r n W g v) (e : b = true) : g < W.heap.size := by
  obtain ⟨_, _, ⟨cs, h3, _⟩, _⟩ := h e
  exact h3.lt
theorem Box.new (hn : n ≤ W.heap.size) : Box true false r n (W.alloc (.cells #[.bool false, .slice none 0 0] 68)) W.heap.size (ptr W.heap.size 0) := fun _ =>
  ⟨rfl, hn, ⟨_, zv_new W, zv_int⟩, fun e => Bool.noConfusion e⟩
theorem Box.fresh {b0 : Bool} (hn : n ≤ W.heap.size) (hd : d = true → b0 = true) (hb : b0 = false) : Box true d r n (W.alloc (.cells #[.bool false, .slice none 0 0] 68)) W.heap.size (ptr W.heap.size 0) := fun _ =>
  ⟨rfl, hn, ⟨_, zv_new W, zv_int⟩, fun e => absurd (hd e) (by rw [hb]; simp)⟩
end Oi
end Go.Proofs.YtgknolliicachaaDoor
