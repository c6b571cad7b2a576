/- A region that draws its order, by a condition that every operation keeps: one case for an operation, not one for an order. -/
import Derived.RegionTactic
import Derived.Deep.RegionHeld
namespace Go.Proofs.YtlnkhlifkooohaaGreatDoor
open Go
namespace Oi
variable {P : Program} {ops : Array Oper} {Q : Exit → Act → World → Prop} {md : Region.Mode}
def cntF (l : Array Bool) : Nat := l.toList.count false
theorem cnt_set : ∀ (l : List Bool) (i : Nat), l[i]? = some false → (l.set i true).count false + 1 = l.count false
  | [], i, h => by simp at h
  | x :: xs, 0, h => by simp at h; subst h; simp
  | x :: xs, i + 1, h => by
    have := cnt_set xs i (by simpa using h)
    simp only [List.set_cons_succ, List.count_cons]
    omega
theorem cntF_set {l : Array Bool} {i : Nat} (h : l.getD i true = false) : cntF (l.setIfInBounds i true) + 1 = cntF l := by
  unfold cntF
  rw [Array.toList_setIfInBounds]
  refine cnt_set _ _ ?_
  rw [Array.getElem?_toList]
  rw [Array.getD_eq_getD_getElem?] at h
  cases hh : l[i]? with
  | none => rw [hh] at h; simp at h
  | some b => rw [hh] at h; simpa using h
theorem wpAny_inv (I : Array Bool → Act → World → Prop)
    (hfin : ∀ l a w, I l a w → Region.ready md ops l = [] → Q .normal a w)
    (hstep : ∀ l a w i o, I l a w → l.getD i true = false → ops[i]? = some o → (∀ e ∈ o.after, Region.binds md e = true → l.getD e.on false = true) →
      ∀ K : Act → World → Prop, Shut (∀ a' w', I (l.setIfInBounds i true) a' w' → K a' w') → if Region.wanted o (yielded ops a.tmps) = true then Oper.wp P o a w K Q else K (a.put o.dst undef) w) :
    ∀ (fuel : Nat) (l : Array Bool) (a : Act) (w : World), cntF l ≤ fuel → I l a w → wpAny P md ops Q fuel l a w
  | 0, l, a, w, hc, hI => by
    have hr : Region.ready md ops l = [] := List.eq_nil_iff_forall_not_mem.2 (fun i hi => by have := cntF_set (mem_ready.1 hi).1; omega)
    exact ⟨hr, hfin _ _ _ hI hr⟩
  | n + 1, l, a, w, hc, hI => ⟨hfin _ _ _ hI, fun i hi => by
      obtain ⟨h0, o, ho, hall⟩ := mem_ready.1 hi
      have hs := wpOp_step (Q := Q) (P := P) (K := I (l.setIfInBounds i true)) ho (fun K hK => hstep l a w i o hI h0 ho hall K hK)
      exact wpOp_mono (fun a' w' h' => wpAny_inv I hfin hstep n _ a' w' (by have := cntF_set h0; omega) h') hs⟩
theorem wpAny_start (I : Array Bool → Act → World → Prop) (l' : Array Bool) {l : Array Bool} {fuel : Nat} {a : Act} {w : World} (hl : l = l') (hc : decide (cntF l' ≤ fuel) = true) (hI : I l' a w)
    (hfin : ∀ l a w, I l a w → Region.ready md ops l = [] → Q .normal a w)
    (hstep : ∀ l a w i o, I l a w → l.getD i true = false → ops[i]? = some o → (∀ e ∈ o.after, Region.binds md e = true → l.getD e.on false = true) →
      ∀ K : Act → World → Prop, Shut (∀ a' w', I (l.setIfInBounds i true) a' w' → K a' w') → if Region.wanted o (yielded ops a.tmps) = true then Oper.wp P o a w K Q else K (a.put o.dst undef) w) : wpAny P md ops Q fuel l a w := by
  subst hl
  exact wpAny_inv I hfin hstep fuel _ a w (of_decide_eq_true hc) hI
theorem ready_nil {i : Nat} {o : Oper} {l : Array Bool} (h : Region.ready md ops l = []) (h0 : l.getD i true = false) (ho : ops[i]? = some o) (hall : ∀ e ∈ o.after, Region.binds md e = true → l.getD e.on false = true) : False := by
  have := mem_ready.2 ⟨h0, o, ho, hall⟩
  rw [h] at this
  cases this
end Oi
end Go.Proofs.YtlnkhlifkooohaaGreatDoor
