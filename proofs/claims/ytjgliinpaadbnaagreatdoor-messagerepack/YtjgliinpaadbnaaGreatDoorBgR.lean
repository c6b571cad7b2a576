/- omnibusbig's Add, and the document's MeaningOf (joined). -/
import Derived.RegionTactic
import Derived.Deep.RegionHeld
import Derived.Test.YtjgliinpaadbnaaGreatDoorBgWB
import Derived.Test.YtjgliinpaadbnaaGreatDoorSgReadOk
namespace Go.Proofs.YtjgliinpaadbnaaGreatDoor
open Go
namespace Oi
variable {P : Program} {ops : Array Oper} {Q : Exit → Act → World → Prop} {md : Region.Mode}
def cntF (l : Array Bool) : Nat := l.toList.count false
theorem cnt_set : ∀ (l : List Bool) (i : Nat), l[i]? = some false → (l.set i true).count false + 1 = l.count false
  | [], i, h => by simp at h
  | x :: xs, 0, h => by simp at h; subst h; simp
  | x :: xs, i + 1, h => by
    have := cnt_set xs i (by simpa using h)
    simp only [List.set_cons_succ, List.count_cons]
    omega
theorem cntF_set {l : Array Bool} {i : Nat} (h : l.getD i true = false) : cntF (l.setIfInBounds i true) + 1 = cntF l := by
  unfold cntF
  rw [Array.toList_setIfInBounds]
  refine cnt_set _ _ ?_
  rw [Array.getElem?_toList]
  rw [Array.getD_eq_getD_getElem?] at h
  cases hh : l[i]? with
  | none => rw [hh] at h; simp at h
  | some b => rw [hh] at h; simpa using h
theorem wpAny_inv (I : Array Bool → Act → World → Prop)
    (hfin : ∀ l a w, I l a w → Region.ready md ops l = [] → Q .normal a w)
    (hstep : ∀ l a w i o, I l a w → l.getD i true = false → ops[i]? = some o → (∀ e ∈ o.after, Region.binds md e = true → l.getD e.on false = true) →
      ∀ K : Act → World → Prop, Shut (∀ a' w', I (l.setIfInBounds i true) a' w' → K a' w') → if Region.wanted o (yielded ops a.tmps) = true then Oper.wp P o a w K Q else K (a.put o.dst undef) w) :
    ∀ (fuel : Nat) (l : Array Bool) (a : Act) (w : World), cntF l ≤ fuel → I l a w → wpAny P md ops Q fuel l a w
  | 0, l, a, w, hc, hI => by
    have hr : Region.ready md ops l = [] := List.eq_nil_iff_forall_not_mem.2 (fun i hi => by have := cntF_set (mem_ready.1 hi).1; omega)
    exact ⟨hr, hfin _ _ _ hI hr⟩
  | n + 1, l, a, w, hc, hI => ⟨hfin _ _ _ hI, fun i hi => by
      obtain ⟨h0, o, ho, hall⟩ := mem_ready.1 hi
      have hs := wpOp_step (Q := Q) (P := P) (K := I (l.setIfInBounds i true)) ho (fun K hK => hstep l a w i o hI h0 ho hall K hK)
      exact wpOp_mono (fun a' w' h' => wpAny_inv I hfin hstep n _ a' w' (by have := cntF_set h0; omega) h') hs⟩
theorem wpAny_start (I : Array Bool → Act → World → Prop) (l' : Array Bool) {l : Array Bool} {fuel : Nat} {a : Act} {w : World} (hl : l = l') (hc : decide (cntF l' ≤ fuel) = true) (hI : I l' a w)
    (hfin : ∀ l a w, I l a w → Region.ready md ops l = [] → Q .normal a w)
    (hstep : ∀ l a w i o, I l a w → l.getD i true = false → ops[i]? = some o → (∀ e ∈ o.after, Region.binds md e = true → l.getD e.on false = true) →
      ∀ K : Act → World → Prop, Shut (∀ a' w', I (l.setIfInBounds i true) a' w' → K a' w') → if Region.wanted o (yielded ops a.tmps) = true then Oper.wp P o a w K Q else K (a.put o.dst undef) w) : wpAny P md ops Q fuel l a w := by
  subst hl
  exact wpAny_inv I hfin hstep fuel _ a w (of_decide_eq_true hc) hI
theorem ready_nil {i : Nat} {o : Oper} {l : Array Bool} (h : Region.ready md ops l = []) (h0 : l.getD i true = false) (ho : ops[i]? = some o) (hall : ∀ e ∈ o.after, Region.binds md e = true → l.getD e.on false = true) : False := by
  have := mem_ready.2 ⟨h0, o, ho, hall⟩
  rw [h] at this
  cases this
end Oi
end Go.Proofs.YtjgliinpaadbnaaGreatDoor
namespace Go.Proofs.YtjgliinpaadbnaaGreatDoor
open Go.ChangeShapes Go.WideShapes Go.ChangeAt Go.RowKit Go.Sort
namespace Oi
open Ww Wm Sm
open Bw (Tch bl2 cell_kept)
def ptr (g o : Nat) : Value := .pointer (some ⟨g, o, none⟩)
def Box (b d : Bool) (r : Int) (n : Nat) (w : World) (g : Nat) (v : Value) : Prop :=
  b = true → v = ptr g 0 ∧ n ≤ g ∧ (∃ cs, BlkAt w g cs 85 ∧ IntV cs) ∧ (d = true → ZAt w g 0 r)
variable {b d : Bool} {r : Int} {n g : Nat} {v : Value} {W W' : World}
theorem Box.kept (h : Box b d r n W g v) (hb : Below W.heap.size W W') : Box b d r n W' g v := fun e => by
  obtain ⟨h1, h2, ⟨cs, h3, h4⟩, h5⟩ := h e
  exact ⟨h1, h2, ⟨cs, h3.kept hb, h4⟩, fun e => (h5 e).kept hb⟩
theorem Box.tch (h : Box b d r n W g v) {k : Nat} {cs : List Value} {T : TypeId} (hb : BlkAt W k cs T) (hn : NoW cs) (ht : Tch [k] W W') (hne : b = true → g ≠ k) : Box b d r n W' g v := fun e => by
  obtain ⟨h1, h2, ⟨cs, h3, h4⟩, h5⟩ := h e
  exact ⟨h1, h2, ⟨cs, h3.tch ht (by simpa using hne e), h4⟩, fun e' => (h5 e').tch hb hn ht (hne e)⟩
theorem Box.lt (h : Box b d r n W g v) (e : b = true) : g < W.heap.size := by
  obtain ⟨_, _, ⟨cs, h3, _⟩, _⟩ := h e
  exact h3.lt
theorem Box.new (hn : n ≤ W.heap.size) : Box true false r n (W.alloc (.cells #[.bool false, .slice none 0 0] 85)) W.heap.size (ptr W.heap.size 0) := fun _ =>
  ⟨rfl, hn, ⟨_, zv_new W, zv_int⟩, fun e => Bool.noConfusion e⟩
theorem Box.fresh {b0 : Bool} (hn : n ≤ W.heap.size) (hd : d = true → b0 = true) (hb : b0 = false) : Box true d r n (W.alloc (.cells #[.bool false, .slice none 0 0] 85)) W.heap.size (ptr W.heap.size 0) := fun _ =>
  ⟨rfl, hn, ⟨_, zv_new W, zv_int⟩, fun e => absurd (hd e) (by rw [hb]; simp)⟩
end Oi
end Go.Proofs.YtjgliinpaadbnaaGreatDoor
namespace Go.Proofs.YtjgliinpaadbnaaGreatDoor
open Go.ChangeShapes Go.WideShapes Go.ChangeAt Go.RowKit Go.Sort
namespace Ww
open Wm Sm
open Bw (Tch bl2 cell_kept)
open Oi (ptr Box)
structure BdAdd (xa xb ya yb : Int) : Prop where
  x1 : -4611686018427387903 ≤ xa
  x2 : xa ≤ 4611686018427387903
  x3 : 0 < xb
  x4 : xb ≤ 4611686018427387903
  y1 : -4611686018427387903 ≤ ya
  y2 : ya ≤ 4611686018427387903
  y3 : 0 < yb
  y4 : yb ≤ 4611686018427387903
  p1 : -4611686018427387903 ≤ xa * yb
  p2 : xa * yb ≤ 4611686018427387903
  q1 : -4611686018427387903 ≤ ya * xb
  q2 : ya * xb ≤ 4611686018427387903
  r1 : -4611686018427387903 ≤ xa * yb + (ya * xb)
  r2 : xa * yb + (ya * xb) ≤ 4611686018427387903
  d1 : xb * yb ≤ 4611686018427387903
structure AddI (gx gy : Nat) (xa xb ya yb : Int) (w0 W : World) (b0 b1 b6 b7 b8 b13 b14 b15 b16 : Bool) (g8 g9 g16 : Nat) (v7 v8 v9 v14 v15 v16 v21 v22 v23 : Value) : Prop where
  below : Below w0.heap.size w0 W
  box8 : Box b0 b15 (xa * yb + (ya * xb)) w0.heap.size W g8 v8
  box9 : Box b1 b7 (xa * yb) w0.heap.size W g9 v9
  box16 : Box b8 b14 (ya * xb) w0.heap.size W g16 v16
  d89 : b0 = true → b1 = true → g8 ≠ g9
  d816 : b0 = true → b8 = true → g8 ≠ g16
  d916 : b1 = true → b8 = true → g9 ≠ g16
  p14 : b6 = true → v14 = ptr gy 2
  p21 : b13 = true → v21 = ptr gx 2
  p15 : b7 = true → v15 = ptr g9 0
  p22 : b14 = true → v22 = ptr g16 0
  p23 : b15 = true → v23 = ptr g8 0
  p7 : b16 = true → v7 = ptr g8 0
  o7 : b7 = true → b1 = true
  o14 : b14 = true → b8 = true
  o15 : b15 = true → b0 = true
  o16 : b16 = true → b15 = true
namespace AddI
variable {gx gy : Nat} {xa xb ya yb : Int} {w0 W : World} {b0 b1 b6 b7 b8 b13 b14 b15 b16 : Bool} {g8 g9 g16 : Nat} {v7 v8 v9 v14 v15 v16 v21 v22 v23 : Value}
theorem new0 (h : AddI gx gy xa xb ya yb w0 W b0 b1 b6 b7 b8 b13 b14 b15 b16 g8 g9 g16 v7 v8 v9 v14 v15 v16 v21 v22 v23) (hb : b0 = false) : AddI gx gy xa xb ya yb w0 (W.alloc (.cells #[.bool false, .slice none 0 0] 85)) true b1 b6 b7 b8 b13 b14 b15 b16 W.heap.size g9 g16 v7 (ptr W.heap.size 0) v9 v14 v15 v16 v21 v22 v23 :=
  { below := h.below.alloc h.below.size _, box8 := Box.fresh h.below.size h.o15 hb, box9 := h.box9.kept (zvB W), box16 := h.box16.kept (zvB W), d89 := fun _ e => fun x => absurd (h.box9.lt e) (by omega), d816 := fun _ e => fun x => absurd (h.box16.lt e) (by omega), d916 := h.d916, p14 := h.p14, p21 := h.p21, p15 := h.p15, p22 := h.p22, p23 := fun e => absurd (h.o15 e) (by rw [hb]; simp), p7 := fun e => absurd (h.o15 (h.o16 e)) (by rw [hb]; simp), o7 := h.o7, o14 := h.o14, o15 := fun _ => rfl, o16 := h.o16 }
theorem new1 (h : AddI gx gy xa xb ya yb w0 W b0 b1 b6 b7 b8 b13 b14 b15 b16 g8 g9 g16 v7 v8 v9 v14 v15 v16 v21 v22 v23) (hb : b1 = false) : AddI gx gy xa xb ya yb w0 (W.alloc (.cells #[.bool false, .slice none 0 0] 85)) b0 true b6 b7 b8 b13 b14 b15 b16 g8 W.heap.size g16 v7 v8 (ptr W.heap.size 0) v14 v15 v16 v21 v22 v23 :=
  { below := h.below.alloc h.below.size _, box8 := h.box8.kept (zvB W), box9 := Box.fresh h.below.size h.o7 hb, box16 := h.box16.kept (zvB W), d89 := fun e _ => fun x => absurd (h.box8.lt e) (by omega), d816 := h.d816, d916 := fun _ e => fun x => absurd (h.box16.lt e) (by omega), p14 := h.p14, p21 := h.p21, p15 := fun e => absurd (h.o7 e) (by rw [hb]; simp), p22 := h.p22, p23 := h.p23, p7 := h.p7, o7 := fun _ => rfl, o14 := h.o14, o15 := h.o15, o16 := h.o16 }
theorem new8 (h : AddI gx gy xa xb ya yb w0 W b0 b1 b6 b7 b8 b13 b14 b15 b16 g8 g9 g16 v7 v8 v9 v14 v15 v16 v21 v22 v23) (hb : b8 = false) : AddI gx gy xa xb ya yb w0 (W.alloc (.cells #[.bool false, .slice none 0 0] 85)) b0 b1 b6 b7 true b13 b14 b15 b16 g8 g9 W.heap.size v7 v8 v9 v14 v15 (ptr W.heap.size 0) v21 v22 v23 :=
  { below := h.below.alloc h.below.size _, box8 := h.box8.kept (zvB W), box9 := h.box9.kept (zvB W), box16 := Box.fresh h.below.size h.o14 hb, d89 := h.d89, d816 := fun e _ => fun x => absurd (h.box8.lt e) (by omega), d916 := fun e _ => fun x => absurd (h.box9.lt e) (by omega), p14 := h.p14, p21 := h.p21, p15 := h.p15, p22 := fun e => absurd (h.o14 e) (by rw [hb]; simp), p23 := h.p23, p7 := h.p7, o7 := h.o7, o14 := fun _ => rfl, o15 := h.o15, o16 := h.o16 }
theorem den6 (h : AddI gx gy xa xb ya yb w0 W b0 b1 b6 b7 b8 b13 b14 b15 b16 g8 g9 g16 v7 v8 v9 v14 v15 v16 v21 v22 v23) : AddI gx gy xa xb ya yb w0 W b0 b1 true b7 b8 b13 b14 b15 b16 g8 g9 g16 v7 v8 v9 (ptr gy 2) v15 v16 v21 v22 v23 := { h with p14 := fun _ => rfl }
theorem den13 (h : AddI gx gy xa xb ya yb w0 W b0 b1 b6 b7 b8 b13 b14 b15 b16 g8 g9 g16 v7 v8 v9 v14 v15 v16 v21 v22 v23) (_ : b7 = true) : AddI gx gy xa xb ya yb w0 W b0 b1 b6 b7 b8 true b14 b15 b16 g8 g9 g16 v7 v8 v9 v14 v15 v16 (ptr gx 2) v22 v23 := { h with p21 := fun _ => rfl }
theorem set16 (h : AddI gx gy xa xb ya yb w0 W b0 b1 b6 b7 b8 b13 b14 b15 b16 g8 g9 g16 v7 v8 v9 v14 v15 v16 v21 v22 v23) (e : b15 = true) : AddI gx gy xa xb ya yb w0 W b0 b1 b6 b7 b8 b13 b14 b15 true g8 g9 g16 v23 v8 v9 v14 v15 v16 v21 v22 v23 := { h with p7 := fun _ => h.p23 e, o16 := fun _ => e }
theorem call7 (h : AddI gx gy xa xb ya yb w0 W b0 b1 b6 b7 b8 b13 b14 b15 b16 g8 g9 g16 v7 v8 v9 v14 v15 v16 v21 v22 v23) (HX : RatAt w0 gx xa xb) (HY : RatAt w0 gy ya yb) (B : BdAdd xa xb ya yb) (_ : b7 = false) (e1 : b1 = true) (e6 : b6 = true) :
    v9 = ptr g9 0 ∧ (True) ∧ v14 = ptr gy 2 ∧ Calls Tryz.prog 94 #[.pointer (some ⟨g9, 0, none⟩), .pointer (some ⟨gx, 0, none⟩), .pointer (some ⟨gy, 2, none⟩)] W fun e W2 => e = .returned (.pointer (some ⟨g9, 0, none⟩)) ∧ AddI gx gy xa xb ya yb w0 W2 b0 b1 b6 true b8 b13 b14 b15 b16 g8 g9 g16 v7 v8 v9 v14 (ptr g9 0) v16 v21 v22 v23 := by
  obtain ⟨q1, q2, ⟨cs, hB, hi⟩, _⟩ := h.box9 e1
  have hgx := HX.num.lt
  have hgy := HY.num.lt
  refine ⟨q1, trivial, h.p14 e6, (imul_z g9 cs _ gx 0 gy 2 xa yb W (HX.kept h.below).num (HY.kept h.below).den hB hi (by omega) (by omega) B.x1 B.x2 (by have := B.y3; omega) B.y4).mono ?_⟩
  rintro e W2 ⟨rfl, hO⟩
  exact ⟨rfl, { below := hO.below h.below q2, box8 := h.box8.tch hB hi.noW hO.1 (fun e => h.d89 e e1), box9 := fun _ => ⟨q1, q2, (hO.int hi).2, fun _ => (hO.int hi).1⟩, box16 := h.box16.tch hB hi.noW hO.1 (fun e => (h.d916 e1 e).symm), d89 := h.d89, d816 := h.d816, d916 := h.d916, p14 := h.p14, p21 := h.p21, p15 := fun _ => rfl, p22 := h.p22, p23 := h.p23, p7 := h.p7, o14 := h.o14, o15 := h.o15, o16 := h.o16, o7 := fun _ => e1 }⟩
theorem call14 (h : AddI gx gy xa xb ya yb w0 W b0 b1 b6 b7 b8 b13 b14 b15 b16 g8 g9 g16 v7 v8 v9 v14 v15 v16 v21 v22 v23) (HX : RatAt w0 gx xa xb) (HY : RatAt w0 gy ya yb) (B : BdAdd xa xb ya yb) (_ : b14 = false) (e8 : b8 = true) (e13 : b13 = true) :
    v16 = ptr g16 0 ∧ (True) ∧ v21 = ptr gx 2 ∧ Calls Tryz.prog 94 #[.pointer (some ⟨g16, 0, none⟩), .pointer (some ⟨gy, 0, none⟩), .pointer (some ⟨gx, 2, none⟩)] W fun e W2 => e = .returned (.pointer (some ⟨g16, 0, none⟩)) ∧ AddI gx gy xa xb ya yb w0 W2 b0 b1 b6 b7 b8 b13 true b15 b16 g8 g9 g16 v7 v8 v9 v14 v15 v16 v21 (ptr g16 0) v23 := by
  obtain ⟨q1, q2, ⟨cs, hB, hi⟩, _⟩ := h.box16 e8
  have hgx := HX.num.lt
  have hgy := HY.num.lt
  refine ⟨q1, trivial, h.p21 e13, (imul_z g16 cs _ gy 0 gx 2 ya xb W (HY.kept h.below).num (HX.kept h.below).den hB hi (by omega) (by omega) B.y1 B.y2 (by have := B.x3; omega) B.x4).mono ?_⟩
  rintro e W2 ⟨rfl, hO⟩
  exact ⟨rfl, { below := hO.below h.below q2, box8 := h.box8.tch hB hi.noW hO.1 (fun e => h.d816 e e8), box9 := h.box9.tch hB hi.noW hO.1 (fun e => h.d916 e e8), box16 := fun _ => ⟨q1, q2, (hO.int hi).2, fun _ => (hO.int hi).1⟩, d89 := h.d89, d816 := h.d816, d916 := h.d916, p14 := h.p14, p21 := h.p21, p15 := h.p15, p22 := fun _ => rfl, p23 := h.p23, p7 := h.p7, o7 := h.o7, o15 := h.o15, o16 := h.o16, o14 := fun _ => e8 }⟩
theorem call15 (h : AddI gx gy xa xb ya yb w0 W b0 b1 b6 b7 b8 b13 b14 b15 b16 g8 g9 g16 v7 v8 v9 v14 v15 v16 v21 v22 v23) (_ : RatAt w0 gx xa xb) (_ : RatAt w0 gy ya yb) (B : BdAdd xa xb ya yb) (_ : b15 = false) (e0 : b0 = true) (e7 : b7 = true) (e14 : b14 = true) :
    v8 = ptr g8 0 ∧ (v15 = ptr g9 0) ∧ v22 = ptr g16 0 ∧ Calls Tryz.prog 140 #[.pointer (some ⟨g8, 0, none⟩), .pointer (some ⟨g9, 0, none⟩), .pointer (some ⟨g16, 0, none⟩)] W fun e W2 => e = .returned (.pointer (some ⟨g8, 0, none⟩)) ∧ AddI gx gy xa xb ya yb w0 W2 b0 b1 b6 b7 b8 b13 b14 true b16 g8 g9 g16 v7 v8 v9 v14 v15 v16 v21 v22 (ptr g8 0) := by
  obtain ⟨q1, q2, ⟨cs, hB, hi⟩, _⟩ := h.box8 e0
  obtain ⟨_, _, _, z9⟩ := h.box9 (h.o7 e7)
  obtain ⟨_, _, _, z16⟩ := h.box16 (h.o14 e14)
  replace z9 := z9 e7
  replace z16 := z16 e14
  refine ⟨q1, h.p15 e7, h.p22 e14, (iadd_z g8 cs _ g9 0 g16 0 (xa * yb) (ya * xb) W z9 z16 hB hi (fun x => h.d89 e0 (h.o7 e7) x.symm) (fun x => h.d816 e0 (h.o14 e14) x.symm) B.p1 B.p2 B.q1 B.q2).mono ?_⟩
  rintro e W2 ⟨rfl, hO⟩
  exact ⟨rfl, { below := hO.below h.below q2, box8 := fun _ => ⟨q1, q2, (hO.int hi).2, fun _ => (hO.int hi).1⟩, box9 := h.box9.tch hB hi.noW hO.1 (fun e => (h.d89 e0 e).symm), box16 := h.box16.tch hB hi.noW hO.1 (fun e => (h.d816 e0 e).symm), d89 := h.d89, d816 := h.d816, d916 := h.d916, p14 := h.p14, p21 := h.p21, p15 := h.p15, p22 := h.p22, p23 := fun _ => rfl, p7 := h.p7, o7 := h.o7, o14 := h.o14, o16 := fun _ => rfl, o15 := fun _ => e0 }⟩
end AddI
set_option maxHeartbeats 16000000 in
set_option maxRecDepth 100000 in
theorem radd_z (gz gx gy : Nat) (cs : List Value) (xa xb ya yb : Int) (w : World) (hB : BlkAt w gz cs 87) (hV : RatV cs) (hx : RatAt w gx xa xb) (hy : RatAt w gy ya yb) (hbd : BdAdd xa xb ya yb) :
    Calls Tryz.prog 90 #[.pointer (some ⟨gz, 0, none⟩), .pointer (some ⟨gx, 0, none⟩), .pointer (some ⟨gy, 0, none⟩)] w fun e w' => e = .returned (.pointer (some ⟨gz, 0, none⟩)) ∧ RatAt w' gz (numL (xa * yb + (ya * xb)) (xb * yb)) (denL (xa * yb + (ya * xb)) (xb * yb)) ∧ Tch [gz] w w' := by
  have HX := Hid.mk hx
  have HY := Hid.mk hy
  have HBD := Hid.mk hbd
  have HXB := Hid.mk hbd.x3
  have HYB := Hid.mk hbd.y3
  have HB := Hid.mk hB
  have HV := Hid.mk hV
  clear hx hy hbd hB hV
  go_enter Tryz.func90, Tryz.ntmps90
  go_wp2_with fail
  refine wp_region_any (by kernel_rfl) ?_
  refine wpAny_take (i := 2) (v := .pointer (some ⟨gx, 0, none⟩)) rfl (by kernel_rfl) (by kernel_rfl) (by kernel_rfl) (fun _ _ _ h => h) (Or.inl ⟨by rfl, fun _ => by rfl⟩) ?_
  simp only [List.getElem_toArray, List.getElem_cons_zero, List.getElem_cons_succ, Act.put, List.setIfInBounds_toArray, List.set_cons_zero, List.set_cons_succ]
  refine wpAny_take (i := 3) (v := .pointer (some ⟨gx, 0, none⟩)) rfl (by kernel_rfl) (by kernel_rfl) (by kernel_rfl) (fun _ _ _ h => h) (Or.inl ⟨by rfl, fun _ => by rfl⟩) ?_
  simp only [List.getElem_toArray, List.getElem_cons_zero, List.getElem_cons_succ, Act.put, List.setIfInBounds_toArray, List.set_cons_zero, List.set_cons_succ]
  refine wpAny_take (i := 4) (v := .pointer (some ⟨gx, 0, none⟩)) rfl (by kernel_rfl) (by kernel_rfl) (by kernel_rfl) (fun _ _ _ h => h) (Or.inl ⟨by rfl, fun _ => by rfl⟩) ?_
  simp only [List.getElem_toArray, List.getElem_cons_zero, List.getElem_cons_succ, Act.put, List.setIfInBounds_toArray, List.set_cons_zero, List.set_cons_succ]
  refine wpAny_take (i := 5) (v := .pointer (some ⟨gy, 0, none⟩)) rfl (by kernel_rfl) (by kernel_rfl) (by kernel_rfl) (fun _ _ _ h => h) (Or.inl ⟨by rfl, fun _ => by rfl⟩) ?_
  simp only [List.getElem_toArray, List.getElem_cons_zero, List.getElem_cons_succ, Act.put, List.setIfInBounds_toArray, List.set_cons_zero, List.set_cons_succ]
  refine wpAny_take (i := 9) (v := .pointer (some ⟨gy, 0, none⟩)) rfl (by kernel_rfl) (by kernel_rfl) (by kernel_rfl) (fun _ _ _ h => h) (Or.inl ⟨by rfl, fun _ => by rfl⟩) ?_
  simp only [List.getElem_toArray, List.getElem_cons_zero, List.getElem_cons_succ, Act.put, List.setIfInBounds_toArray, List.set_cons_zero, List.set_cons_succ]
  refine wpAny_take (i := 10) (v := .pointer (some ⟨gy, 0, none⟩)) rfl (by kernel_rfl) (by kernel_rfl) (by kernel_rfl) (fun _ _ _ h => h) (Or.inl ⟨by rfl, fun _ => by rfl⟩) ?_
  simp only [List.getElem_toArray, List.getElem_cons_zero, List.getElem_cons_succ, Act.put, List.setIfInBounds_toArray, List.set_cons_zero, List.set_cons_succ]
  refine wpAny_take (i := 11) (v := .pointer (some ⟨gy, 0, none⟩)) rfl (by kernel_rfl) (by kernel_rfl) (by kernel_rfl) (fun _ _ _ h => h) (Or.inl ⟨by rfl, fun _ => by rfl⟩) ?_
  simp only [List.getElem_toArray, List.getElem_cons_zero, List.getElem_cons_succ, Act.put, List.setIfInBounds_toArray, List.set_cons_zero, List.set_cons_succ]
  refine wpAny_take (i := 12) (v := .pointer (some ⟨gx, 0, none⟩)) rfl (by kernel_rfl) (by kernel_rfl) (by kernel_rfl) (fun _ _ _ h => h) (Or.inl ⟨by rfl, fun _ => by rfl⟩) ?_
  simp only [List.getElem_toArray, List.getElem_cons_zero, List.getElem_cons_succ, Act.put, List.setIfInBounds_toArray, List.set_cons_zero, List.set_cons_succ]
  refine Oi.wpAny_start (fun l a W => ∃ b0 b1 b6 b7 b8 b13 b14 b15 b16 g8 g9 g16 v7 v8 v9 v14 v15 v16 v21 v22 v23, l = #[b0, b1, true, true, true, true, b6, b7, b8, true, true, true, true, b13, b14, b15, b16] ∧ a = ⟨#[.pointer (some ⟨gz, 0, none⟩), .pointer (some ⟨gx, 0, none⟩), .pointer (some ⟨gy, 0, none⟩), undef, undef, undef, .pointer none, v7, v8, v9, .pointer (some ⟨gx, 0, none⟩), .pointer (some ⟨gx, 0, none⟩), .pointer (some ⟨gx, 0, none⟩), .pointer (some ⟨gy, 0, none⟩), v14, v15, v16, .pointer (some ⟨gy, 0, none⟩), .pointer (some ⟨gy, 0, none⟩), .pointer (some ⟨gy, 0, none⟩), .pointer (some ⟨gx, 0, none⟩), v21, v22, v23, undef, undef, undef, undef, undef, undef, undef, undef, undef], []⟩ ∧ AddI gx gy xa xb ya yb w W b0 b1 b6 b7 b8 b13 b14 b15 b16 g8 g9 g16 v7 v8 v9 v14 v15 v16 v21 v22 v23) #[false, false, true, true, true, true, false, false, false, true, true, true, true, false, false, false, false] (by kernel_rfl) (by kernel_rfl) ⟨false, false, false, false, false, false, false, false, false, 0, 0, 0, undef, undef, undef, undef, undef, undef, undef, undef, undef, rfl, rfl, ?_⟩ ?_ ?_
  · exact { below := ⟨rfl, rfl, rfl, Nat.le_refl _, fun _ _ => rfl⟩, box8 := fun e => Bool.noConfusion e, box9 := fun e => Bool.noConfusion e, box16 := fun e => Bool.noConfusion e, d89 := fun e => Bool.noConfusion e, d816 := fun e => Bool.noConfusion e, d916 := fun e => Bool.noConfusion e, p14 := fun e => Bool.noConfusion e, p21 := fun e => Bool.noConfusion e, p15 := fun e => Bool.noConfusion e, p22 := fun e => Bool.noConfusion e, p23 := fun e => Bool.noConfusion e, p7 := fun e => Bool.noConfusion e, o7 := fun e => Bool.noConfusion e, o14 := fun e => Bool.noConfusion e, o15 := fun e => Bool.noConfusion e, o16 := fun e => Bool.noConfusion e }
  rotate_left
  · rintro l a W i o ⟨b0, b1, b6, b7, b8, b13, b14, b15, b16, g8, g9, g16, v7, v8, v9, v14, v15, v16, v21, v22, v23, rfl, rfl, hI⟩ h0 ho hall K hK
    have hi : i < 17 := (Array.getElem?_eq_some_iff.1 ho).1
    have hii : i = 0 ∨ i = 1 ∨ i = 2 ∨ i = 3 ∨ i = 4 ∨ i = 5 ∨ i = 6 ∨ i = 7 ∨ i = 8 ∨ i = 9 ∨ i = 10 ∨ i = 11 ∨ i = 12 ∨ i = 13 ∨ i = 14 ∨ i = 15 ∨ i = 16 := by omega
    clear hi
    rcases hii with rfl | rfl | rfl | rfl | rfl | rfl | rfl | rfl | rfl | rfl | rfl | rfl | rfl | rfl | rfl | rfl | rfl
    · simp only [List.getElem?_toArray, List.getElem?_cons_zero, Option.some.injEq] at ho
      subst ho
      have hN := hI.new0 h0
      have HN := Hid.mk hN
      clear hN hall h0
      go_simp
      exact hK.out _ _ ⟨_, _, _, _, _, _, _, _, _, _, _, _, _, _, _, _, _, _, _, _, _, rfl, rfl, HN.out⟩
    · simp only [List.getElem?_toArray, List.getElem?_cons_zero, List.getElem?_cons_succ, Option.some.injEq] at ho
      subst ho
      have hN := hI.new1 h0
      have HN := Hid.mk hN
      clear hN hall h0
      go_simp
      exact hK.out _ _ ⟨_, _, _, _, _, _, _, _, _, _, _, _, _, _, _, _, _, _, _, _, _, rfl, rfl, HN.out⟩
    · exact Bool.noConfusion h0
    · exact Bool.noConfusion h0
    · exact Bool.noConfusion h0
    · exact Bool.noConfusion h0
    · simp only [List.getElem?_toArray, List.getElem?_cons_zero, List.getElem?_cons_succ, Option.some.injEq] at ho
      subst ho
      have HN := Hid.mk (hI.den6 )
      have HC := Hid.mk (den_z gy ya yb W (HY.out.kept hI.below) (by have := HYB.out; omega))
      clear hall h0 hI
      go_simp
      go_wp2_with fail
      with_reducible refine HC.out.mono ?_
      rintro e W2 ⟨rfl, hw2⟩
      obtain rfl := hw2.symm
      go_wp2_with fail
      exact hK.out _ _ ⟨_, _, _, _, _, _, _, _, _, _, _, _, _, _, _, _, _, _, _, _, _, rfl, rfl, HN.out⟩
    · simp only [List.getElem?_toArray, List.getElem?_cons_zero, List.getElem?_cons_succ, Option.some.injEq] at ho
      subst ho
      have e1 : b1 = true := hall ⟨1, .data⟩ (by simp) rfl
      have e6 : b6 = true := hall ⟨6, .data⟩ (by simp) rfl
      obtain ⟨hv1, hv2, hv3, hC⟩ := hI.call7 HX.out HY.out HBD.out h0 e1 e6
      unfold ptr at hv1 hv3
      have HC := Hid.mk hC
      subst hv1 hv3
      clear hC hall h0 hI
      go_simp
      go_wp2_with fail
      with_reducible refine HC.out.mono ?_
      rintro e W2 ⟨rfl, hI2⟩
      have HI2 := Hid.mk hI2
      clear hI2
      go_wp2_with fail
      exact hK.out _ _ ⟨_, _, _, _, _, _, _, _, _, _, _, _, _, _, _, _, _, _, _, _, _, rfl, rfl, HI2.out⟩
    · simp only [List.getElem?_toArray, List.getElem?_cons_zero, List.getElem?_cons_succ, Option.some.injEq] at ho
      subst ho
      have hN := hI.new8 h0
      have HN := Hid.mk hN
      clear hN hall h0
      go_simp
      exact hK.out _ _ ⟨_, _, _, _, _, _, _, _, _, _, _, _, _, _, _, _, _, _, _, _, _, rfl, rfl, HN.out⟩
    · exact Bool.noConfusion h0
    · exact Bool.noConfusion h0
    · exact Bool.noConfusion h0
    · exact Bool.noConfusion h0
    · simp only [List.getElem?_toArray, List.getElem?_cons_zero, List.getElem?_cons_succ, Option.some.injEq] at ho
      subst ho
      have e7 : b7 = true := hall ⟨7, .chain⟩ (by simp) rfl
      have HN := Hid.mk (hI.den13 e7 )
      have HC := Hid.mk (den_z gx xa xb W (HX.out.kept hI.below) (by have := HXB.out; omega))
      clear hall h0 hI
      go_simp
      go_wp2_with fail
      with_reducible refine HC.out.mono ?_
      rintro e W2 ⟨rfl, hw2⟩
      obtain rfl := hw2.symm
      go_wp2_with fail
      exact hK.out _ _ ⟨_, _, _, _, _, _, _, _, _, _, _, _, _, _, _, _, _, _, _, _, _, rfl, rfl, HN.out⟩
    · simp only [List.getElem?_toArray, List.getElem?_cons_zero, List.getElem?_cons_succ, Option.some.injEq] at ho
      subst ho
      have e8 : b8 = true := hall ⟨8, .data⟩ (by simp) rfl
      have e13 : b13 = true := hall ⟨13, .data⟩ (by simp) rfl
      obtain ⟨hv1, hv2, hv3, hC⟩ := hI.call14 HX.out HY.out HBD.out h0 e8 e13
      unfold ptr at hv1 hv3
      have HC := Hid.mk hC
      subst hv1 hv3
      clear hC hall h0 hI
      go_simp
      go_wp2_with fail
      with_reducible refine HC.out.mono ?_
      rintro e W2 ⟨rfl, hI2⟩
      have HI2 := Hid.mk hI2
      clear hI2
      go_wp2_with fail
      exact hK.out _ _ ⟨_, _, _, _, _, _, _, _, _, _, _, _, _, _, _, _, _, _, _, _, _, rfl, rfl, HI2.out⟩
    · simp only [List.getElem?_toArray, List.getElem?_cons_zero, List.getElem?_cons_succ, Option.some.injEq] at ho
      subst ho
      have e0 : b0 = true := hall ⟨0, .data⟩ (by simp) rfl
      have e7 : b7 = true := hall ⟨7, .data⟩ (by simp) rfl
      have e14 : b14 = true := hall ⟨14, .data⟩ (by simp) rfl
      obtain ⟨hv1, hv2, hv3, hC⟩ := hI.call15 HX.out HY.out HBD.out h0 e0 e7 e14
      unfold ptr at hv1 hv2 hv3
      have HC := Hid.mk hC
      subst hv1 hv2 hv3
      clear hC hall h0 hI
      go_simp
      go_wp2_with fail
      with_reducible refine HC.out.mono ?_
      rintro e W2 ⟨rfl, hI2⟩
      have HI2 := Hid.mk hI2
      clear hI2
      go_wp2_with fail
      exact hK.out _ _ ⟨_, _, _, _, _, _, _, _, _, _, _, _, _, _, _, _, _, _, _, _, _, rfl, rfl, HI2.out⟩
    · simp only [List.getElem?_toArray, List.getElem?_cons_zero, List.getElem?_cons_succ, Option.some.injEq] at ho
      subst ho
      have e15 : b15 = true := hall ⟨15, .data⟩ (by simp) rfl
      have HN := Hid.mk (hI.set16 e15)
      clear hall h0 hI
      go_simp
      exact hK.out _ _ ⟨_, _, _, _, _, _, _, _, _, _, _, _, _, _, _, _, _, _, _, _, _, rfl, rfl, HN.out⟩
  rintro l a W ⟨b0, b1, b6, b7, b8, b13, b14, b15, b16, g8, g9, g16, v7, v8, v9, v14, v15, v16, v21, v22, v23, rfl, rfl, hI⟩ hr
  cases b0 with
  | false => exact (Oi.ready_nil (i := 0) hr rfl rfl (by intro e he _; simp at he; try (rcases he with rfl <;> rfl))).elim
  | true =>
  cases b1 with
  | false => exact (Oi.ready_nil (i := 1) hr rfl rfl (by intro e he _; simp at he; try (rcases he with rfl <;> rfl))).elim
  | true =>
  cases b6 with
  | false => exact (Oi.ready_nil (i := 6) hr rfl rfl (by intro e he _; simp at he; try (rcases he with rfl <;> rfl))).elim
  | true =>
  cases b7 with
  | false => exact (Oi.ready_nil (i := 7) hr rfl rfl (by intro e he _; simp at he; try (rcases he with rfl | rfl | rfl | rfl <;> rfl))).elim
  | true =>
  cases b8 with
  | false => exact (Oi.ready_nil (i := 8) hr rfl rfl (by intro e he _; simp at he; try (rcases he with rfl <;> rfl))).elim
  | true =>
  cases b13 with
  | false => exact (Oi.ready_nil (i := 13) hr rfl rfl (by intro e he _; simp at he; try (rcases he with rfl | rfl <;> rfl))).elim
  | true =>
  cases b14 with
  | false => exact (Oi.ready_nil (i := 14) hr rfl rfl (by intro e he _; simp at he; try (rcases he with rfl | rfl | rfl | rfl <;> rfl))).elim
  | true =>
  cases b15 with
  | false => exact (Oi.ready_nil (i := 15) hr rfl rfl (by intro e he _; simp at he; try (rcases he with rfl | rfl | rfl | rfl <;> rfl))).elim
  | true =>
  cases b16 with
  | false => exact (Oi.ready_nil (i := 16) hr rfl rfl (by intro e he _; simp at he; try (rcases he with rfl | rfl | rfl | rfl | rfl | rfl | rfl | rfl | rfl | rfl | rfl | rfl | rfl | rfl | rfl | rfl | rfl | rfl <;> rfl))).elim
  | true =>
  clear hr
  have hp7 := hI.p7 rfl
  unfold ptr at hp7
  subst hp7
  obtain ⟨-, hg8, -, hz8⟩ := hI.box8 rfl
  replace hz8 := hz8 rfl
  have hbl := hI.below
  have hxl := HX.out.num.lt
  have hyl := HY.out.num.lt
  clear hI
  have HX2 := Hid.mk (HX.out.kept hbl)
  have HY2 := Hid.mk (HY.out.kept hbl)
  have hZ1 := zvB W
  have HD1 := Hid.mk (den_z gx xa xb _ (HX2.out.kept hZ1) (by have := HXB.out; omega))
  have HD2 := Hid.mk (den_z gy ya yb _ (HY2.out.kept hZ1) (by have := HYB.out; omega))
  have HM := Hid.mk (imul_z W.heap.size zvC _ gx 2 gy 2 xb yb _ (HX2.out.kept hZ1).den (HY2.out.kept hZ1).den (zv_new W) zv_int (by have := hbl.size; omega) (by have := hbl.size; omega) (by have := HXB.out; omega) HBD.out.x4 (by have := HYB.out; omega) HBD.out.y4)
  have HZ8 := Hid.mk (hz8.kept hZ1)
  have H8L := Hid.mk hz8.lt
  have HWL := Hid.mk hbl
  have HZ1 := Hid.mk hZ1
  clear hg8 hz8 hbl hxl hyl hZ1 HX2 HY2 HX HY
  go_wp2_with fail
  with_reducible refine HD1.out.mono ?_
  rintro e W2 ⟨rfl, hw2⟩
  obtain rfl := hw2.symm
  go_wp2_with fail
  with_reducible refine HD2.out.mono ?_
  rintro e W2 ⟨rfl, hw2⟩
  obtain rfl := hw2.symm
  go_wp2_with fail
  with_reducible refine HM.out.mono ?_
  rintro e W4 ⟨rfl, hO⟩
  have hbl4 := hO.below HZ1.out (Nat.le_refl _)
  have hz := (hO.int zv_int).1
  have hz8 : ZAt W4 g8 0 (xa * yb + (ya * xb)) := HZ8.out.tch (zv_new W) zv_int.noW hO.1 (by have := H8L.out; omega)
  have hbW := bl2 HWL.out hbl4
  have HS := Hid.mk (setFrac_pos gz cs g8 0 W.heap.size 0 (xa * yb + (ya * xb)) (xb * yb) W4 (HB.out.kept hbW) HV.out hz8 hz (Int.mul_pos HXB.out HYB.out) HBD.out.r1 HBD.out.r2 HBD.out.d1)
  have HBW := Hid.mk hbW
  clear hO hbl4 hz hz8 hbW
  go_wp2_with fail
  with_reducible refine HS.out.mono ?_
  rintro e W5 ⟨rfl, hR, ht⟩
  have HR := Hid.mk hR
  have HT := Hid.mk ((Tch.of HBW.out).trans ht)
  clear hR ht
  go_wp2_with fail
  go_ret
  exact ⟨rfl, HR.out, HT.out⟩
end Ww
end Go.Proofs.YtjgliinpaadbnaaGreatDoor
namespace Go.Proofs.YtjgliinpaadbnaaGreatDoor
open Go.ChangeShapes Go.WideShapes Go.ChangeAt Go.RowKit Go.Sort
namespace Bw
open Sm Ww
theorem mean_res (tmps : Array Value) (w : World) (g : Nat) (nm : ByteArray) (num den : Int) (hp : tmps.getD 4 undef = .pointer (some ⟨g, 0, none⟩)) (h : RdAt3 w g nm num den) :
    (results Tryz.f45 tmps).run Tryz.prog w = .ok (rdV nm num den) w := by
  have hl := run_loadVar_row (P := Tryz.prog) w g 44 44 #[.string nm, .int .i64 num, .int .i64 den] (0, 0) _ h Tryz.underlying44 rfl (by rw [read_i]; rfl)
  have hp' : tmps[4]?.getD undef = .pointer (some ⟨g, 0, none⟩) := by simpa using hp
  unfold rdV
  simp [results, hp', asAddr, hl]
theorem numL_leM {n d : Int} : (numL n d).natAbs ≤ n.natAbs := by
  rw [numL_abs]
  exact Nat.div_le_self _ _
theorem denL_le' {n d : Int} (hd : 0 < d) : denL n d ≤ d := by
  have h1 := denL_abs n d
  have h2 := Nat.div_le_self d.natAbs (Int.gcd n d)
  have := denL_pos (n := n) hd
  omega
theorem low_add (p q a : Int) (hq : 0 < q) : numL (numL p q * 1 + a * denL p q) (denL p q * 1) = numL (p + a * q) q ∧ denL (numL p q * 1 + a * denL p q) (denL p q * 1) = denL (p + a * q) q := by
  have hD := denL_pos (n := p) hq
  refine low_eq (by omega) hq ?_
  obtain ⟨h1, h2⟩ := @low_mul p q
  generalize numL p q = N at *
  generalize denL p q = D at *
  generalize (Int.gcd p q : Int) = G at *
  subst h1
  subst h2
  rw [Int.mul_one, Int.mul_one]
  rw [Int.add_mul, Int.add_mul]
  congr 1 <;> ac_rfl
theorem cell_tch3 {w : World} {n : Nat} {u a b c : Value} (h : w.cell? ⟨n, 0, none⟩ = some u) : (((w.setCell ⟨n + 1, 0, none⟩ a).setCell ⟨n + 1, 1, none⟩ b).setCell ⟨n + 1, 2, none⟩ c).cell? ⟨n, 0, none⟩ = some u := by
  rw [World.cell?_setCell_far _ _ _ _ (by simp), World.cell?_setCell_far _ _ _ _ (by simp), World.cell?_setCell_far _ _ _ _ (by simp)]
  exact h
set_option maxHeartbeats 16000000 in
set_option maxRecDepth 100000 in
theorem meaning_any (s : Sig) (st sz n : Nat) (r : Int) (w : World) (hR : Rt s st sz n) (h1 : -1099511627776 ≤ r) (h2 : r ≤ 1099511627776) :
    Calls Tryz.prog 45 #[sgV s, .int .i64 r] w fun e w' => e = .returned (rdV s.nm (numL (meanN s r) s.di) (denL (meanN s r) s.di)) ∧ Below w.heap.size w w' := by
  have HB := Hid.mk (rW0_B w s)
  have HZ := Hid.mk (rW0_r w s)
  have HG := Hid.mk (rW0_s w s)
  obtain ⟨⟨b1, b2⟩, b3, b4⟩ := mean_bound hR h1 h2
  have hdi1 := hR.di1
  have hdi2 := hR.di2
  have had1 := hR.ad1
  have had2 := hR.ad2
  clear hR
  unfold meanN
  obtain ⟨nm, sta, sza, bk, sg, mu, di, ad, ky⟩ := s
  simp only at b1 b2 b3 b4 hdi1 hdi2 had1 had2
  obtain ⟨M, hM⟩ : ∃ M, M = r * mu := ⟨_, rfl⟩
  have hM' : IntKind.i64.wrap (r * mu) = M := by rw [IntKind.wrap_i64, ← hM]; omega
  rw [← hM] at b1 b2
  unfold rW0 sgC rdC at HB HZ HG
  unfold sgV
  simp only at HB HZ HG ⊢
  rw [← hM]
  have hq : 0 < di := by omega
  have hnl := @numL_leM M di
  have hdl := denL_le' (n := M) hq
  have hdp := denL_pos (n := M) hq
  have hla := low_add M di ad hq
  have hmb := mul_bound (a := ad) (b := denL M di) (A := 1000000) (B := 1000000) (by omega) (by omega) (by omega) (by omega)
  have hnl2 := @numL_leM (M + ad * di) di
  have hdl2 := denL_le' (n := M + ad * di) hq
  have hdp2 := denL_pos (n := M + ad * di) hq
  have HLA1 := Hid.mk hla.1
  have HLA2 := Hid.mk hla.2
  have HF := Hid.mk (fun W cs g h1 h2 => setFrac64_z g cs M di W h1 h2 hq (by omega) (by omega) (by omega))
  have HI := Hid.mk (fun W cs g h1 h2 => rset_z g cs ad W h1 h2 (by omega) (by omega))
  have HBD : Hid (BdAdd (numL M di) (denL M di) ad 1) := Hid.mk ⟨by omega, by omega, hdp, by omega, by omega, by omega, by omega, by omega, by omega, by omega, by omega, by omega, by omega, by omega, by omega⟩
  have HNB := Hid.mk (show (-4611686018427387903 ≤ numL (M + ad * di) di ∧ numL (M + ad * di) di ≤ 4611686018427387903) ∧ 0 < denL (M + ad * di) di ∧ denL (M + ad * di) di ≤ 4611686018427387903 by omega)
  clear hla hmb hnl hdl hdp hnl2 hdl2 hdp2 h1 h2 hdi1 hdi2 had1 had2 b1 b2 b3 b4 hM hq
  generalize numL (M + ad * di) di = N2 at *
  generalize denL (M + ad * di) di = D2 at *
  generalize numL M di = N1 at *
  generalize denL M di = D1 at *
  go_enter Tryz.func45, Tryz.ntmps45
  obtain ⟨w1, hw1⟩ : ∃ w1, w1 = (w.alloc (.cells #[.string nm, .int .i64 sta, .int .i64 sza, .bool bk, .bool sg, .int .i64 mu, .int .i64 di, .int .i64 ad, .int .i64 ky] 42)).alloc (.cells #[.string ⟨#[]⟩, .int .i64 0, .int .i64 0] 44) := ⟨_, rfl⟩
  rw [← hw1] at HB HZ HG
  have HG0 := Hid.mk HG.out
  have HS1 := Hid.mk (show w1.heap.size = w.heap.size + 2 by rw [hw1]; simp)
  obtain ⟨c0, c1, c2, c3, c4, c5, c6, c7, c8⟩ := HG.out.kept (rzB w1)
  simp only at c0 c1 c2 c3 c4 c5 c6 c7 c8
  go_wp2_with (rw [← hw1]; clear hw1)
  with_reducible refine (HF.out _ rzC w1.heap.size (rz_new w1) rz_rat).mono ?_
  rintro e w2 ⟨rfl, hR2, ht2⟩
  have hB2 := Tch.below (rzB w1) ht2 (by simp) (Nat.le_refl _)
  have HR2 := Hid.mk hR2
  have HB2 := Hid.mk hB2
  have HG2 := Hid.mk (HG.out.kept hB2)
  clear c0 c1 c2 c3 c4 c5 c6 c7 c8 hR2 ht2 hB2 HF HG
  obtain ⟨c0, c1, c2, c3, c4, c5, c6, c7, c8⟩ := HG2.out.kept (rzB w2)
  simp only at c0 c1 c2 c3 c4 c5 c6 c7 c8
  go_wp2_with fail
  with_reducible refine (HI.out _ rzC w2.heap.size (rz_new w2) rz_rat).mono ?_
  rintro e w3 ⟨rfl, hR3, ht3⟩
  have hB3 := Tch.below (rzB w2) ht3 (by simp) (Nat.le_refl _)
  obtain ⟨cs, hcb, hcv⟩ := (HR2.out.kept hB3).var
  have hA := radd_z w1.heap.size w1.heap.size w2.heap.size cs N1 D1 ad 1 w3 hcb hcv (HR2.out.kept hB3) hR3 HBD.out
  rw [HLA1.out, HLA2.out] at hA
  have HA := Hid.mk hA
  have HB3 := Hid.mk (bl2 HB2.out hB3)
  clear c0 c1 c2 c3 c4 c5 c6 c7 c8 hR3 ht3 hB3 HI hA hcb hcv HG2 HR2 HBD HLA1 HLA2 HB2
  go_wp2_with fail
  with_reducible refine HA.out.mono ?_
  rintro e w4 ⟨rfl, hR4, ht4⟩
  have hB4 := Tch.below HB3.out ht4 (by simp) (Nat.le_refl _)
  have HR4 := Hid.mk hR4
  have HZ4 := Hid.mk (HZ.out.kept hB4)
  have HBB := Hid.mk (bl2 HB.out hB4)
  have c0 := (HG0.out.kept hB4).c0
  simp only at c0
  have HN := Hid.mk (rnum_z w1.heap.size w4.drew)
  have HI1 := Hid.mk (int64_z w1.heap.size 0 N2 w4.drew (hR4.kept (dwS w4)).num HNB.out.1.1 HNB.out.1.2)
  have HDN := Hid.mk (rdenom_z w1.heap.size N2 D2 w4.drew (hR4.kept (dwS w4)) HNB.out.2.1 HNB.out.2.2)
  have HI2 := Hid.mk (fun W g h => int64_z g 0 D2 W h (by have := HNB.out.2.1; omega) HNB.out.2.2)
  clear hB4 hR4 ht4 HA HB3 HG0 HZ
  go_wp2_with fail
  refine wp_region_held_drew (S := fun W => W.cell? ⟨w.heap.size, 0, none⟩ = some (.string nm)) (by kernel_rfl) c0 (fun hHeld => ?_)
  refine wpAnyH_take (i := 0) (v := .pointer (some ⟨w.heap.size, 0, none⟩)) rfl (by kernel_rfl) (by kernel_rfl) (by kernel_rfl) (fun _ _ _ h => h) (Or.inl ⟨by rfl, fun _ _ => by rfl⟩) hHeld ?_
  simp only [List.getElem_toArray, List.getElem_cons_zero, Act.put, List.setIfInBounds_toArray, List.set_cons_zero, List.set_cons_succ]
  refine wpAnyH_take (i := 1) (v := .string nm) rfl (by kernel_rfl) (by kernel_rfl) (by kernel_rfl) (fun _ _ _ h => h) (Or.inl ⟨by rfl, fun W hW => by clear hHeld; go_simp⟩) hHeld ?_
  simp only [List.getElem_toArray, List.getElem_cons_zero, List.getElem_cons_succ, Act.put, List.setIfInBounds_toArray, List.set_cons_zero, List.set_cons_succ]
  refine wpAnyH_take (i := 2) (v := .pointer (some ⟨w1.heap.size, 0, none⟩)) rfl (by kernel_rfl) (by kernel_rfl) (by kernel_rfl) (fun _ _ _ h => h) (Or.inl ⟨by rfl, fun _ _ => by rfl⟩) hHeld ?_
  simp only [List.getElem_toArray, List.getElem_cons_zero, List.getElem_cons_succ, Act.put, List.setIfInBounds_toArray, List.set_cons_zero, List.set_cons_succ]
  refine wpAnyH_take (i := 5) (v := .pointer (some ⟨w1.heap.size, 0, none⟩)) rfl (by kernel_rfl) (by kernel_rfl) (by kernel_rfl) (fun _ _ _ h => h) (Or.inl ⟨by rfl, fun _ _ => by rfl⟩) hHeld ?_
  simp only [List.getElem_toArray, List.getElem_cons_zero, List.getElem_cons_succ, Act.put, List.setIfInBounds_toArray, List.set_cons_zero, List.set_cons_succ]
  refine wpAnyH_ready (rs := [3]) (by kernel_rfl) (by simp) ?_
  refine AllReadyH.cons rfl (fun K hK => ?_) AllReadyH.nil
  go_simp
  go_wp2_with fail
  with_reducible refine HN.out.mono ?_
  rintro e W5 ⟨rfl, hw5⟩
  obtain rfl := hw5.symm
  go_wp2_with fail
  refine hK.out _ _ (hHeld) (fun h1 => ?_)
  clear hK K hHeld
  refine wpAnyH_ready (rs := [4]) (by kernel_rfl) (by simp) ?_
  refine AllReadyH.cons rfl (fun K hK => ?_) AllReadyH.nil
  go_simp
  go_wp2_with fail
  with_reducible refine HI1.out.mono ?_
  rintro e W5 ⟨rfl, hw5⟩
  obtain rfl := hw5.symm
  go_wp2_with fail
  refine hK.out _ _ (h1) (fun h2 => ?_)
  clear hK K h1
  refine wpAnyH_ready (rs := [6]) (by kernel_rfl) (by simp) ?_
  refine AllReadyH.cons rfl (fun K hK => ?_) AllReadyH.nil
  go_simp
  go_wp2_with fail
  with_reducible refine HDN.out.mono ?_
  rintro e w5 ⟨rfl, hz5, hb5⟩
  have HZ5 := Hid.mk (show ZAt w5 w4.heap.size 0 D2 from hz5)
  have HB5 := Hid.mk (bl2 (dwS w4) hb5)
  have hc5 := cell_kept (bl2 (dwS w4) hb5) c0
  clear hz5 hb5
  go_wp2_with fail
  refine hK.out _ _ (hc5) (fun h3 => ?_)
  clear hK K h2
  refine wpAnyH_ready (rs := [7]) (by kernel_rfl) (by simp) ?_
  refine AllReadyH.cons rfl (fun K hK => ?_) AllReadyH.nil
  go_simp
  go_wp2_with fail
  with_reducible refine (HI2.out _ w4.heap.size HZ5.out).mono ?_
  rintro e W6 ⟨rfl, hw6⟩
  obtain rfl := hw6.symm
  go_wp2_with fail
  refine hK.out _ _ (hc5) (fun h4 => ?_)
  clear hK K h3
  refine wpAnyH_take (i := 8) (v := .agg #[.string nm, .int .i64 N2, .int .i64 D2]) rfl (by kernel_rfl) (by kernel_rfl) (by kernel_rfl) (fun _ _ _ h => h) (Or.inl ⟨by rfl, fun W hW => by clear hW h4; go_simp⟩) h4 ?_
  simp only [List.getElem_toArray, List.getElem_cons_zero, List.getElem_cons_succ, Act.put, List.setIfInBounds_toArray, List.set_cons_zero, List.set_cons_succ]
  have HZ6 := Hid.mk (HZ4.out.kept HB5.out)
  obtain ⟨⟨d0, d1, d2⟩, f0, f1, f2⟩ := HZ6.out.cells
  obtain ⟨⟨e1, g1⟩, ⟨e2, g2⟩, hF⟩ := HZ6.out.store nm N2 D2
  have HF := Hid.mk hF
  clear hF
  refine wpAnyH_ready (rs := [9]) (by kernel_rfl) (by simp) ?_
  refine AllReadyH.cons rfl (fun K hK => ?_) AllReadyH.nil
  go_simp
  refine hK.out _ _ (cell_tch3 hc5) (fun h5 => ?_)
  clear hK K h4
  refine wpAnyH_done (by kernel_rfl) ?_ _
  go_wp2_with fail
  refine bodyPost_ret (mean_res _ _ (w.heap.size + 1) _ _ _ rfl HF.out) rfl ?_
  exact ⟨rfl, setB3 (bl2 HBB.out HB5.out) (Nat.le_succ _) _ _ _⟩
end Bw
end Go.Proofs.YtjgliinpaadbnaaGreatDoor
