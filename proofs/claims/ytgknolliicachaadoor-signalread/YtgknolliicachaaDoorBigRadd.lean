/- omnibusbig's fractions: Add. -/
import Derived.Test.YtgknolliicachaaDoorBigFrac64
import Derived.Test.YtgknolliicachaaDoorBigArith
import Derived.Test.YtgknolliicachaaDoorOrdBox
namespace Go.Proofs.YtgknolliicachaaDoor
open Go.ChangeShapes Go.WideShapes Go.ChangeAt Go.RowKit Go.Sort
namespace Ww
open Wm Sm
open Bw (Tch bl2 cell_kept)
open Oi (ptr Box)
structure BdAdd (xa xb ya yb : Int) : Prop where
  x1 : -4611686018427387903 ≤ xa
  x2 : xa ≤ 4611686018427387903
  x3 : 0 < xb
  x4 : xb ≤ 4611686018427387903
  y1 : -4611686018427387903 ≤ ya
  y2 : ya ≤ 4611686018427387903
  y3 : 0 < yb
  y4 : yb ≤ 4611686018427387903
  p1 : -4611686018427387903 ≤ xa * yb
  p2 : xa * yb ≤ 4611686018427387903
  q1 : -4611686018427387903 ≤ ya * xb
  q2 : ya * xb ≤ 4611686018427387903
  r1 : -4611686018427387903 ≤ xa * yb + (ya * xb)
  r2 : xa * yb + (ya * xb) ≤ 4611686018427387903
  d1 : xb * yb ≤ 4611686018427387903
structure AddI (gx gy : Nat) (xa xb ya yb : Int) (w0 W : World) (b0 b1 b6 b7 b8 b13 b14 b15 b16 : Bool) (g8 g9 g16 : Nat) (v7 v8 v9 v14 v15 v16 v21 v22 v23 : Value) : Prop where
  below : Below w0.heap.size w0 W
  box8 : Box b0 b15 (xa * yb + (ya * xb)) w0.heap.size W g8 v8
  box9 : Box b1 b7 (xa * yb) w0.heap.size W g9 v9
  box16 : Box b8 b14 (ya * xb) w0.heap.size W g16 v16
  d89 : b0 = true → b1 = true → g8 ≠ g9
  d816 : b0 = true → b8 = true → g8 ≠ g16
  d916 : b1 = true → b8 = true → g9 ≠ g16
  p14 : b6 = true → v14 = ptr gy 2
  p21 : b13 = true → v21 = ptr gx 2
  p15 : b7 = true → v15 = ptr g9 0
  p22 : b14 = true → v22 = ptr g16 0
  p23 : b15 = true → v23 = ptr g8 0
  p7 : b16 = true → v7 = ptr g8 0
  o7 : b7 = true → b1 = true
  o14 : b14 = true → b8 = true
  o15 : b15 = true → b0 = true
  o16 : b16 = true → b15 = true
namespace AddI
variable {gx gy : Nat} {xa xb ya yb : Int} {w0 W : World} {b0 b1 b6 b7 b8 b13 b14 b15 b16 : Bool} {g8 g9 g16 : Nat} {v7 v8 v9 v14 v15 v16 v21 v22 v23 : Value}
theorem new0 (h : AddI gx gy xa xb ya yb w0 W b0 b1 b6 b7 b8 b13 b14 b15 b16 g8 g9 g16 v7 v8 v9 v14 v15 v16 v21 v22 v23) (hb : b0 = false) : AddI gx gy xa xb ya yb w0 (W.alloc (.cells #[.bool false, .slice none 0 0] 68)) true b1 b6 b7 b8 b13 b14 b15 b16 W.heap.size g9 g16 v7 (ptr W.heap.size 0) v9 v14 v15 v16 v21 v22 v23 :=
  { below := h.below.alloc h.below.size _, box8 := Box.fresh h.below.size h.o15 hb, box9 := h.box9.kept (zvB W), box16 := h.box16.kept (zvB W), d89 := fun _ e => fun x => absurd (h.box9.lt e) (by omega), d816 := fun _ e => fun x => absurd (h.box16.lt e) (by omega), d916 := h.d916, p14 := h.p14, p21 := h.p21, p15 := h.p15, p22 := h.p22, p23 := fun e => absurd (h.o15 e) (by rw [hb]; simp), p7 := fun e => absurd (h.o15 (h.o16 e)) (by rw [hb]; simp), o7 := h.o7, o14 := h.o14, o15 := fun _ => rfl, o16 := h.o16 }
theorem new1 (h : AddI gx gy xa xb ya yb w0 W b0 b1 b6 b7 b8 b13 b14 b15 b16 g8 g9 g16 v7 v8 v9 v14 v15 v16 v21 v22 v23) (hb : b1 = false) : AddI gx gy xa xb ya yb w0 (W.alloc (.cells #[.bool false, .slice none 0 0] 68)) b0 true b6 b7 b8 b13 b14 b15 b16 g8 W.heap.size g16 v7 v8 (ptr W.heap.size 0) v14 v15 v16 v21 v22 v23 :=
  { below := h.below.alloc h.below.size _, box8 := h.box8.kept (zvB W), box9 := Box.fresh h.below.size h.o7 hb, box16 := h.box16.kept (zvB W), d89 := fun e _ => fun x => absurd (h.box8.lt e) (by omega), d816 := h.d816, d916 := fun _ e => fun x => absurd (h.box16.lt e) (by omega), p14 := h.p14, p21 := h.p21, p15 := fun e => absurd (h.o7 e) (by rw [hb]; simp), p22 := h.p22, p23 := h.p23, p7 := h.p7, o7 := fun _ => rfl, o14 := h.o14, o15 := h.o15, o16 := h.o16 }
theorem new8 (h : AddI gx gy xa xb ya yb w0 W b0 b1 b6 b7 b8 b13 b14 b15 b16 g8 g9 g16 v7 v8 v9 v14 v15 v16 v21 v22 v23) (hb : b8 = false) : AddI gx gy xa xb ya yb w0 (W.alloc (.cells #[.bool false, .slice none 0 0] 68)) b0 b1 b6 b7 true b13 b14 b15 b16 g8 g9 W.heap.size v7 v8 v9 v14 v15 (ptr W.heap.size 0) v21 v22 v23 :=
  { below := h.below.alloc h.below.size _, box8 := h.box8.kept (zvB W), box9 := h.box9.kept (zvB W), box16 := Box.fresh h.below.size h.o14 hb, d89 := h.d89, d816 := fun e _ => fun x => absurd (h.box8.lt e) (by omega), d916 := fun e _ => fun x => absurd (h.box9.lt e) (by omega), p14 := h.p14, p21 := h.p21, p15 := h.p15, p22 := fun e => absurd (h.o14 e) (by rw [hb]; simp), p23 := h.p23, p7 := h.p7, o7 := h.o7, o14 := fun _ => rfl, o15 := h.o15, o16 := h.o16 }
theorem den6 (h : AddI gx gy xa xb ya yb w0 W b0 b1 b6 b7 b8 b13 b14 b15 b16 g8 g9 g16 v7 v8 v9 v14 v15 v16 v21 v22 v23) : AddI gx gy xa xb ya yb w0 W b0 b1 true b7 b8 b13 b14 b15 b16 g8 g9 g16 v7 v8 v9 (ptr gy 2) v15 v16 v21 v22 v23 := { h with p14 := fun _ => rfl }
theorem den13 (h : AddI gx gy xa xb ya yb w0 W b0 b1 b6 b7 b8 b13 b14 b15 b16 g8 g9 g16 v7 v8 v9 v14 v15 v16 v21 v22 v23) (_ : b7 = true) : AddI gx gy xa xb ya yb w0 W b0 b1 b6 b7 b8 true b14 b15 b16 g8 g9 g16 v7 v8 v9 v14 v15 v16 (ptr gx 2) v22 v23 := { h with p21 := fun _ => rfl }
theorem set16 (h : AddI gx gy xa xb ya yb w0 W b0 b1 b6 b7 b8 b13 b14 b15 b16 g8 g9 g16 v7 v8 v9 v14 v15 v16 v21 v22 v23) (e : b15 = true) : AddI gx gy xa xb ya yb w0 W b0 b1 b6 b7 b8 b13 b14 b15 true g8 g9 g16 v23 v8 v9 v14 v15 v16 v21 v22 v23 := { h with p7 := fun _ => h.p23 e, o16 := fun _ => e }
theorem call7 (h : AddI gx gy xa xb ya yb w0 W b0 b1 b6 b7 b8 b13 b14 b15 b16 g8 g9 g16 v7 v8 v9 v14 v15 v16 v21 v22 v23) (HX : RatAt w0 gx xa xb) (HY : RatAt w0 gy ya yb) (B : BdAdd xa xb ya yb) (_ : b7 = false) (e1 : b1 = true) (e6 : b6 = true) :
    v9 = ptr g9 0 ∧ (True) ∧ v14 = ptr gy 2 ∧ Calls Tryd.prog 67 #[.pointer (some ⟨g9, 0, none⟩), .pointer (some ⟨gx, 0, none⟩), .pointer (some ⟨gy, 2, none⟩)] W fun e W2 => e = .returned (.pointer (some ⟨g9, 0, none⟩)) ∧ AddI gx gy xa xb ya yb w0 W2 b0 b1 b6 true b8 b13 b14 b15 b16 g8 g9 g16 v7 v8 v9 v14 (ptr g9 0) v16 v21 v22 v23 := by
  obtain ⟨q1, q2, ⟨cs, hB, hi⟩, _⟩ := h.box9 e1
  have hgx := HX.num.lt
  have hgy := HY.num.lt
  refine ⟨q1, trivial, h.p14 e6, (imul_z g9 cs _ gx 0 gy 2 xa yb W (HX.kept h.below).num (HY.kept h.below).den hB hi (by omega) (by omega) B.x1 B.x2 (by have := B.y3; omega) B.y4).mono ?_⟩
  rintro e W2 ⟨rfl, hO⟩
  exact ⟨rfl, { below := hO.below h.below q2, box8 := h.box8.tch hB hi.noW hO.1 (fun e => h.d89 e e1), box9 := fun _ => ⟨q1, q2, (hO.int hi).2, fun _ => (hO.int hi).1⟩, box16 := h.box16.tch hB hi.noW hO.1 (fun e => (h.d916 e1 e).symm), d89 := h.d89, d816 := h.d816, d916 := h.d916, p14 := h.p14, p21 := h.p21, p15 := fun _ => rfl, p22 := h.p22, p23 := h.p23, p7 := h.p7, o14 := h.o14, o15 := h.o15, o16 := h.o16, o7 := fun _ => e1 }⟩
theorem call14 (h : AddI gx gy xa xb ya yb w0 W b0 b1 b6 b7 b8 b13 b14 b15 b16 g8 g9 g16 v7 v8 v9 v14 v15 v16 v21 v22 v23) (HX : RatAt w0 gx xa xb) (HY : RatAt w0 gy ya yb) (B : BdAdd xa xb ya yb) (_ : b14 = false) (e8 : b8 = true) (e13 : b13 = true) :
    v16 = ptr g16 0 ∧ (True) ∧ v21 = ptr gx 2 ∧ Calls Tryd.prog 67 #[.pointer (some ⟨g16, 0, none⟩), .pointer (some ⟨gy, 0, none⟩), .pointer (some ⟨gx, 2, none⟩)] W fun e W2 => e = .returned (.pointer (some ⟨g16, 0, none⟩)) ∧ AddI gx gy xa xb ya yb w0 W2 b0 b1 b6 b7 b8 b13 true b15 b16 g8 g9 g16 v7 v8 v9 v14 v15 v16 v21 (ptr g16 0) v23 := by
  obtain ⟨q1, q2, ⟨cs, hB, hi⟩, _⟩ := h.box16 e8
  have hgx := HX.num.lt
  have hgy := HY.num.lt
  refine ⟨q1, trivial, h.p21 e13, (imul_z g16 cs _ gy 0 gx 2 ya xb W (HY.kept h.below).num (HX.kept h.below).den hB hi (by omega) (by omega) B.y1 B.y2 (by have := B.x3; omega) B.x4).mono ?_⟩
  rintro e W2 ⟨rfl, hO⟩
  exact ⟨rfl, { below := hO.below h.below q2, box8 := h.box8.tch hB hi.noW hO.1 (fun e => h.d816 e e8), box9 := h.box9.tch hB hi.noW hO.1 (fun e => h.d916 e e8), box16 := fun _ => ⟨q1, q2, (hO.int hi).2, fun _ => (hO.int hi).1⟩, d89 := h.d89, d816 := h.d816, d916 := h.d916, p14 := h.p14, p21 := h.p21, p15 := h.p15, p22 := fun _ => rfl, p23 := h.p23, p7 := h.p7, o7 := h.o7, o15 := h.o15, o16 := h.o16, o14 := fun _ => e8 }⟩
theorem call15 (h : AddI gx gy xa xb ya yb w0 W b0 b1 b6 b7 b8 b13 b14 b15 b16 g8 g9 g16 v7 v8 v9 v14 v15 v16 v21 v22 v23) (_ : RatAt w0 gx xa xb) (_ : RatAt w0 gy ya yb) (B : BdAdd xa xb ya yb) (_ : b15 = false) (e0 : b0 = true) (e7 : b7 = true) (e14 : b14 = true) :
    v8 = ptr g8 0 ∧ (v15 = ptr g9 0) ∧ v22 = ptr g16 0 ∧ Calls Tryd.prog 66 #[.pointer (some ⟨g8, 0, none⟩), .pointer (some ⟨g9, 0, none⟩), .pointer (some ⟨g16, 0, none⟩)] W fun e W2 => e = .returned (.pointer (some ⟨g8, 0, none⟩)) ∧ AddI gx gy xa xb ya yb w0 W2 b0 b1 b6 b7 b8 b13 b14 true b16 g8 g9 g16 v7 v8 v9 v14 v15 v16 v21 v22 (ptr g8 0) := by
  obtain ⟨q1, q2, ⟨cs, hB, hi⟩, _⟩ := h.box8 e0
  obtain ⟨_, _, _, z9⟩ := h.box9 (h.o7 e7)
  obtain ⟨_, _, _, z16⟩ := h.box16 (h.o14 e14)
  replace z9 := z9 e7
  replace z16 := z16 e14
  refine ⟨q1, h.p15 e7, h.p22 e14, (iadd_z g8 cs _ g9 0 g16 0 (xa * yb) (ya * xb) W z9 z16 hB hi (fun x => h.d89 e0 (h.o7 e7) x.symm) (fun x => h.d816 e0 (h.o14 e14) x.symm) B.p1 B.p2 B.q1 B.q2).mono ?_⟩
  rintro e W2 ⟨rfl, hO⟩
  exact ⟨rfl, { below := hO.below h.below q2, box8 := fun _ => ⟨q1, q2, (hO.int hi).2, fun _ => (hO.int hi).1⟩, box9 := h.box9.tch hB hi.noW hO.1 (fun e => (h.d89 e0 e).symm), box16 := h.box16.tch hB hi.noW hO.1 (fun e => (h.d816 e0 e).symm), d89 := h.d89, d816 := h.d816, d916 := h.d916, p14 := h.p14, p21 := h.p21, p15 := h.p15, p22 := h.p22, p23 := fun _ => rfl, p7 := h.p7, o7 := h.o7, o14 := h.o14, o16 := fun _ => rfl, o15 := fun _ => e0 }⟩
end AddI
set_option maxHeartbeats 16000000 in
set_option maxRecDepth 100000 in
theorem radd_z (gz gx gy : Nat) (cs : List Value) (xa xb ya yb : Int) (w : World) (hB : BlkAt w gz cs 70) (hV : RatV cs) (hx : RatAt w gx xa xb) (hy : RatAt w gy ya yb) (hbd : BdAdd xa xb ya yb) :
    Calls Tryd.prog 40 #[.pointer (some ⟨gz, 0, none⟩), .pointer (some ⟨gx, 0, none⟩), .pointer (some ⟨gy, 0, none⟩)] w fun e w' => e = .returned (.pointer (some ⟨gz, 0, none⟩)) ∧ RatAt w' gz (numL (xa * yb + (ya * xb)) (xb * yb)) (denL (xa * yb + (ya * xb)) (xb * yb)) ∧ Tch [gz] w w' := by
  have HX := Hid.mk hx
  have HY := Hid.mk hy
  have HBD := Hid.mk hbd
  have HXB := Hid.mk hbd.x3
  have HYB := Hid.mk hbd.y3
  have HB := Hid.mk hB
  have HV := Hid.mk hV
  clear hx hy hbd hB hV
  go_enter Tryd.func40, Tryd.ntmps40
  go_wp2_with fail
  refine wp_region_any (by kernel_rfl) ?_
  refine wpAny_take (i := 2) (v := .pointer (some ⟨gx, 0, none⟩)) rfl (by kernel_rfl) (by kernel_rfl) (by kernel_rfl) (fun _ _ _ h => h) (Or.inl ⟨by rfl, fun _ => by rfl⟩) ?_
  simp only [List.getElem_toArray, List.getElem_cons_zero, List.getElem_cons_succ, Act.put, List.setIfInBounds_toArray, List.set_cons_zero, List.set_cons_succ]
  refine wpAny_take (i := 3) (v := .pointer (some ⟨gx, 0, none⟩)) rfl (by kernel_rfl) (by kernel_rfl) (by kernel_rfl) (fun _ _ _ h => h) (Or.inl ⟨by rfl, fun _ => by rfl⟩) ?_
  simp only [List.getElem_toArray, List.getElem_cons_zero, List.getElem_cons_succ, Act.put, List.setIfInBounds_toArray, List.set_cons_zero, List.set_cons_succ]
  refine wpAny_take (i := 4) (v := .pointer (some ⟨gx, 0, none⟩)) rfl (by kernel_rfl) (by kernel_rfl) (by kernel_rfl) (fun _ _ _ h => h) (Or.inl ⟨by rfl, fun _ => by rfl⟩) ?_
  simp only [List.getElem_toArray, List.getElem_cons_zero, List.getElem_cons_succ, Act.put, List.setIfInBounds_toArray, List.set_cons_zero, List.set_cons_succ]
  refine wpAny_take (i := 5) (v := .pointer (some ⟨gy, 0, none⟩)) rfl (by kernel_rfl) (by kernel_rfl) (by kernel_rfl) (fun _ _ _ h => h) (Or.inl ⟨by rfl, fun _ => by rfl⟩) ?_
  simp only [List.getElem_toArray, List.getElem_cons_zero, List.getElem_cons_succ, Act.put, List.setIfInBounds_toArray, List.set_cons_zero, List.set_cons_succ]
  refine wpAny_take (i := 9) (v := .pointer (some ⟨gy, 0, none⟩)) rfl (by kernel_rfl) (by kernel_rfl) (by kernel_rfl) (fun _ _ _ h => h) (Or.inl ⟨by rfl, fun _ => by rfl⟩) ?_
  simp only [List.getElem_toArray, List.getElem_cons_zero, List.getElem_cons_succ, Act.put, List.setIfInBounds_toArray, List.set_cons_zero, List.set_cons_succ]
  refine wpAny_take (i := 10) (v := .pointer (some ⟨gy, 0, none⟩)) rfl (by kernel_rfl) (by kernel_rfl) (by kernel_rfl) (fun _ _ _ h => h) (Or.inl ⟨by rfl, fun _ => by rfl⟩) ?_
  simp only [List.getElem_toArray, List.getElem_cons_zero, List.getElem_cons_succ, Act.put, List.setIfInBounds_toArray, List.set_cons_zero, List.set_cons_succ]
  refine wpAny_take (i := 11) (v := .pointer (some ⟨gy, 0, none⟩)) rfl (by kernel_rfl) (by kernel_rfl) (by kernel_rfl) (fun _ _ _ h => h) (Or.inl ⟨by rfl, fun _ => by rfl⟩) ?_
  simp only [List.getElem_toArray, List.getElem_cons_zero, List.getElem_cons_succ, Act.put, List.setIfInBounds_toArray, List.set_cons_zero, List.set_cons_succ]
  refine wpAny_take (i := 12) (v := .pointer (some ⟨gx, 0, none⟩)) rfl (by kernel_rfl) (by kernel_rfl) (by kernel_rfl) (fun _ _ _ h => h) (Or.inl ⟨by rfl, fun _ => by rfl⟩) ?_
  simp only [List.getElem_toArray, List.getElem_cons_zero, List.getElem_cons_succ, Act.put, List.setIfInBounds_toArray, List.set_cons_zero, List.set_cons_succ]
  refine Oi.wpAny_start (fun l a W => ∃ b0 b1 b6 b7 b8 b13 b14 b15 b16 g8 g9 g16 v7 v8 v9 v14 v15 v16 v21 v22 v23, l = #[b0, b1, true, true, true, true, b6, b7, b8, true, true, true, true, b13, b14, b15, b16] ∧ a = ⟨#[.pointer (some ⟨gz, 0, none⟩), .pointer (some ⟨gx, 0, none⟩), .pointer (some ⟨gy, 0, none⟩), undef, undef, undef, .pointer none, v7, v8, v9, .pointer (some ⟨gx, 0, none⟩), .pointer (some ⟨gx, 0, none⟩), .pointer (some ⟨gx, 0, none⟩), .pointer (some ⟨gy, 0, none⟩), v14, v15, v16, .pointer (some ⟨gy, 0, none⟩), .pointer (some ⟨gy, 0, none⟩), .pointer (some ⟨gy, 0, none⟩), .pointer (some ⟨gx, 0, none⟩), v21, v22, v23, undef, undef, undef, undef, undef, undef, undef, undef, undef], []⟩ ∧ AddI gx gy xa xb ya yb w W b0 b1 b6 b7 b8 b13 b14 b15 b16 g8 g9 g16 v7 v8 v9 v14 v15 v16 v21 v22 v23) #[false, false, true, true, true, true, false, false, false, true, true, true, true, false, false, false, false] (by kernel_rfl) (by kernel_rfl) ⟨false, false, false, false, false, false, false, false, false, 0, 0, 0, undef, undef, undef, undef, undef, undef, undef, undef, undef, rfl, rfl, ?_⟩ ?_ ?_
  · exact { below := ⟨rfl, rfl, rfl, Nat.le_refl _, fun _ _ => rfl⟩, box8 := fun e => Bool.noConfusion e, box9 := fun e => Bool.noConfusion e, box16 := fun e => Bool.noConfusion e, d89 := fun e => Bool.noConfusion e, d816 := fun e => Bool.noConfusion e, d916 := fun e => Bool.noConfusion e, p14 := fun e => Bool.noConfusion e, p21 := fun e => Bool.noConfusion e, p15 := fun e => Bool.noConfusion e, p22 := fun e => Bool.noConfusion e, p23 := fun e => Bool.noConfusion e, p7 := fun e => Bool.noConfusion e, o7 := fun e => Bool.noConfusion e, o14 := fun e => Bool.noConfusion e, o15 := fun e => Bool.noConfusion e, o16 := fun e => Bool.noConfusion e }
  rotate_left
  · rintro l a W i o ⟨b0, b1, b6, b7, b8, b13, b14, b15, b16, g8, g9, g16, v7, v8, v9, v14, v15, v16, v21, v22, v23, rfl, rfl, hI⟩ h0 ho hall K hK
    have hi : i < 17 := (Array.getElem?_eq_some_iff.1 ho).1
    have hii : i = 0 ∨ i = 1 ∨ i = 2 ∨ i = 3 ∨ i = 4 ∨ i = 5 ∨ i = 6 ∨ i = 7 ∨ i = 8 ∨ i = 9 ∨ i = 10 ∨ i = 11 ∨ i = 12 ∨ i = 13 ∨ i = 14 ∨ i = 15 ∨ i = 16 := by omega
    clear hi
    rcases hii with rfl | rfl | rfl | rfl | rfl | rfl | rfl | rfl | rfl | rfl | rfl | rfl | rfl | rfl | rfl | rfl | rfl
    · simp only [List.getElem?_toArray, List.getElem?_cons_zero, Option.some.injEq] at ho
      subst ho
      have hN := hI.new0 h0
      have HN := Hid.mk hN
      clear hN hall h0
      go_simp
      exact hK.out _ _ ⟨_, _, _, _, _, _, _, _, _, _, _, _, _, _, _, _, _, _, _, _, _, rfl, rfl, HN.out⟩
    · simp only [List.getElem?_toArray, List.getElem?_cons_zero, List.getElem?_cons_succ, Option.some.injEq] at ho
      subst ho
      have hN := hI.new1 h0
      have HN := Hid.mk hN
      clear hN hall h0
      go_simp
      exact hK.out _ _ ⟨_, _, _, _, _, _, _, _, _, _, _, _, _, _, _, _, _, _, _, _, _, rfl, rfl, HN.out⟩
    · exact Bool.noConfusion h0
    · exact Bool.noConfusion h0
    · exact Bool.noConfusion h0
    · exact Bool.noConfusion h0
    · simp only [List.getElem?_toArray, List.getElem?_cons_zero, List.getElem?_cons_succ, Option.some.injEq] at ho
      subst ho
      have HN := Hid.mk (hI.den6 )
      have HC := Hid.mk (den_z gy ya yb W (HY.out.kept hI.below) (by have := HYB.out; omega))
      clear hall h0 hI
      go_simp
      go_wp2_with fail
      with_reducible refine HC.out.mono ?_
      rintro e W2 ⟨rfl, hw2⟩
      obtain rfl := hw2.symm
      go_wp2_with fail
      exact hK.out _ _ ⟨_, _, _, _, _, _, _, _, _, _, _, _, _, _, _, _, _, _, _, _, _, rfl, rfl, HN.out⟩
    · simp only [List.getElem?_toArray, List.getElem?_cons_zero, List.getElem?_cons_succ, Option.some.injEq] at ho
      subst ho
      have e1 : b1 = true := hall ⟨1, .data⟩ (by simp) rfl
      have e6 : b6 = true := hall ⟨6, .data⟩ (by simp) rfl
      obtain ⟨hv1, hv2, hv3, hC⟩ := hI.call7 HX.out HY.out HBD.out h0 e1 e6
      unfold ptr at hv1 hv3
      have HC := Hid.mk hC
      subst hv1 hv3
      clear hC hall h0 hI
      go_simp
      go_wp2_with fail
      with_reducible refine HC.out.mono ?_
      rintro e W2 ⟨rfl, hI2⟩
      have HI2 := Hid.mk hI2
      clear hI2
      go_wp2_with fail
      exact hK.out _ _ ⟨_, _, _, _, _, _, _, _, _, _, _, _, _, _, _, _, _, _, _, _, _, rfl, rfl, HI2.out⟩
    · simp only [List.getElem?_toArray, List.getElem?_cons_zero, List.getElem?_cons_succ, Option.some.injEq] at ho
      subst ho
      have hN := hI.new8 h0
      have HN := Hid.mk hN
      clear hN hall h0
      go_simp
      exact hK.out _ _ ⟨_, _, _, _, _, _, _, _, _, _, _, _, _, _, _, _, _, _, _, _, _, rfl, rfl, HN.out⟩
    · exact Bool.noConfusion h0
    · exact Bool.noConfusion h0
    · exact Bool.noConfusion h0
    · exact Bool.noConfusion h0
    · simp only [List.getElem?_toArray, List.getElem?_cons_zero, List.getElem?_cons_succ, Option.some.injEq] at ho
      subst ho
      have e7 : b7 = true := hall ⟨7, .chain⟩ (by simp) rfl
      have HN := Hid.mk (hI.den13 e7 )
      have HC := Hid.mk (den_z gx xa xb W (HX.out.kept hI.below) (by have := HXB.out; omega))
      clear hall h0 hI
      go_simp
      go_wp2_with fail
      with_reducible refine HC.out.mono ?_
      rintro e W2 ⟨rfl, hw2⟩
      obtain rfl := hw2.symm
      go_wp2_with fail
      exact hK.out _ _ ⟨_, _, _, _, _, _, _, _, _, _, _, _, _, _, _, _, _, _, _, _, _, rfl, rfl, HN.out⟩
    · simp only [List.getElem?_toArray, List.getElem?_cons_zero, List.getElem?_cons_succ, Option.some.injEq] at ho
      subst ho
      have e8 : b8 = true := hall ⟨8, .data⟩ (by simp) rfl
      have e13 : b13 = true := hall ⟨13, .data⟩ (by simp) rfl
      obtain ⟨hv1, hv2, hv3, hC⟩ := hI.call14 HX.out HY.out HBD.out h0 e8 e13
      unfold ptr at hv1 hv3
      have HC := Hid.mk hC
      subst hv1 hv3
      clear hC hall h0 hI
      go_simp
      go_wp2_with fail
      with_reducible refine HC.out.mono ?_
      rintro e W2 ⟨rfl, hI2⟩
      have HI2 := Hid.mk hI2
      clear hI2
      go_wp2_with fail
      exact hK.out _ _ ⟨_, _, _, _, _, _, _, _, _, _, _, _, _, _, _, _, _, _, _, _, _, rfl, rfl, HI2.out⟩
    · simp only [List.getElem?_toArray, List.getElem?_cons_zero, List.getElem?_cons_succ, Option.some.injEq] at ho
      subst ho
      have e0 : b0 = true := hall ⟨0, .data⟩ (by simp) rfl
      have e7 : b7 = true := hall ⟨7, .data⟩ (by simp) rfl
      have e14 : b14 = true := hall ⟨14, .data⟩ (by simp) rfl
      obtain ⟨hv1, hv2, hv3, hC⟩ := hI.call15 HX.out HY.out HBD.out h0 e0 e7 e14
      unfold ptr at hv1 hv2 hv3
      have HC := Hid.mk hC
      subst hv1 hv2 hv3
      clear hC hall h0 hI
      go_simp
      go_wp2_with fail
      with_reducible refine HC.out.mono ?_
      rintro e W2 ⟨rfl, hI2⟩
      have HI2 := Hid.mk hI2
      clear hI2
      go_wp2_with fail
      exact hK.out _ _ ⟨_, _, _, _, _, _, _, _, _, _, _, _, _, _, _, _, _, _, _, _, _, rfl, rfl, HI2.out⟩
    · simp only [List.getElem?_toArray, List.getElem?_cons_zero, List.getElem?_cons_succ, Option.some.injEq] at ho
      subst ho
      have e15 : b15 = true := hall ⟨15, .data⟩ (by simp) rfl
      have HN := Hid.mk (hI.set16 e15)
      clear hall h0 hI
      go_simp
      exact hK.out _ _ ⟨_, _, _, _, _, _, _, _, _, _, _, _, _, _, _, _, _, _, _, _, _, rfl, rfl, HN.out⟩
  rintro l a W ⟨b0, b1, b6, b7, b8, b13, b14, b15, b16, g8, g9, g16, v7, v8, v9, v14, v15, v16, v21, v22, v23, rfl, rfl, hI⟩ hr
  cases b0 with
  | false => exact (Oi.ready_nil (i := 0) hr rfl rfl (by intro e he _; simp at he; try (rcases he with rfl <;> rfl))).elim
  | true =>
  cases b1 with
  | false => exact (Oi.ready_nil (i := 1) hr rfl rfl (by intro e he _; simp at he; try (rcases he with rfl <;> rfl))).elim
  | true =>
  cases b6 with
  | false => exact (Oi.ready_nil (i := 6) hr rfl rfl (by intro e he _; simp at he; try (rcases he with rfl <;> rfl))).elim
  | true =>
  cases b7 with
  | false => exact (Oi.ready_nil (i := 7) hr rfl rfl (by intro e he _; simp at he; try (rcases he with rfl | rfl | rfl | rfl <;> rfl))).elim
  | true =>
  cases b8 with
  | false => exact (Oi.ready_nil (i := 8) hr rfl rfl (by intro e he _; simp at he; try (rcases he with rfl <;> rfl))).elim
  | true =>
  cases b13 with
  | false => exact (Oi.ready_nil (i := 13) hr rfl rfl (by intro e he _; simp at he; try (rcases he with rfl | rfl <;> rfl))).elim
  | true =>
  cases b14 with
  | false => exact (Oi.ready_nil (i := 14) hr rfl rfl (by intro e he _; simp at he; try (rcases he with rfl | rfl | rfl | rfl <;> rfl))).elim
  | true =>
  cases b15 with
  | false => exact (Oi.ready_nil (i := 15) hr rfl rfl (by intro e he _; simp at he; try (rcases he with rfl | rfl | rfl | rfl <;> rfl))).elim
  | true =>
  cases b16 with
  | false => exact (Oi.ready_nil (i := 16) hr rfl rfl (by intro e he _; simp at he; try (rcases he with rfl | rfl | rfl | rfl | rfl | rfl | rfl | rfl | rfl | rfl | rfl | rfl | rfl | rfl | rfl | rfl | rfl | rfl <;> rfl))).elim
  | true =>
  clear hr
  have hp7 := hI.p7 rfl
  unfold ptr at hp7
  subst hp7
  obtain ⟨-, hg8, -, hz8⟩ := hI.box8 rfl
  replace hz8 := hz8 rfl
  have hbl := hI.below
  have hxl := HX.out.num.lt
  have hyl := HY.out.num.lt
  clear hI
  have HX2 := Hid.mk (HX.out.kept hbl)
  have HY2 := Hid.mk (HY.out.kept hbl)
  have hZ1 := zvB W
  have HD1 := Hid.mk (den_z gx xa xb _ (HX2.out.kept hZ1) (by have := HXB.out; omega))
  have HD2 := Hid.mk (den_z gy ya yb _ (HY2.out.kept hZ1) (by have := HYB.out; omega))
  have HM := Hid.mk (imul_z W.heap.size zvC _ gx 2 gy 2 xb yb _ (HX2.out.kept hZ1).den (HY2.out.kept hZ1).den (zv_new W) zv_int (by have := hbl.size; omega) (by have := hbl.size; omega) (by have := HXB.out; omega) HBD.out.x4 (by have := HYB.out; omega) HBD.out.y4)
  have HZ8 := Hid.mk (hz8.kept hZ1)
  have H8L := Hid.mk hz8.lt
  have HWL := Hid.mk hbl
  have HZ1 := Hid.mk hZ1
  clear hg8 hz8 hbl hxl hyl hZ1 HX2 HY2 HX HY
  go_wp2_with fail
  with_reducible refine HD1.out.mono ?_
  rintro e W2 ⟨rfl, hw2⟩
  obtain rfl := hw2.symm
  go_wp2_with fail
  with_reducible refine HD2.out.mono ?_
  rintro e W2 ⟨rfl, hw2⟩
  obtain rfl := hw2.symm
  go_wp2_with fail
  with_reducible refine HM.out.mono ?_
  rintro e W4 ⟨rfl, hO⟩
  have hbl4 := hO.below HZ1.out (Nat.le_refl _)
  have hz := (hO.int zv_int).1
  have hz8 : ZAt W4 g8 0 (xa * yb + (ya * xb)) := HZ8.out.tch (zv_new W) zv_int.noW hO.1 (by have := H8L.out; omega)
  have hbW := bl2 HWL.out hbl4
  have HS := Hid.mk (setFrac_pos gz cs g8 0 W.heap.size 0 (xa * yb + (ya * xb)) (xb * yb) W4 (HB.out.kept hbW) HV.out hz8 hz (Int.mul_pos HXB.out HYB.out) HBD.out.r1 HBD.out.r2 HBD.out.d1)
  have HBW := Hid.mk hbW
  clear hO hbl4 hz hz8 hbW
  go_wp2_with fail
  with_reducible refine HS.out.mono ?_
  rintro e W5 ⟨rfl, hR, ht⟩
  have HR := Hid.mk hR
  have HT := Hid.mk ((Tch.of HBW.out).trans ht)
  clear hR ht
  go_wp2_with fail
  go_ret
  exact ⟨rfl, HR.out, HT.out⟩
end Ww
end Go.Proofs.YtgknolliicachaaDoor
