/- omnibusbig's fractions: Sub, Mul, Quo. -/
import Derived.Test.YtgknolliicachaaDoorBigFrac64
import Derived.Test.YtgknolliicachaaDoorBigArith
import Derived.Test.YtgknolliicachaaDoorOrdBoth
namespace Go.Proofs.YtgknolliicachaaDoor
open Go.ChangeShapes Go.WideShapes Go.ChangeAt Go.RowKit Go.Sort
namespace Ww
open Wm Sm
open Bw (Tch bl2 cell_kept)
open Oi (ptr Box)
structure BdSub (xa xb ya yb : Int) : Prop where
  x1 : -4611686018427387903 ≤ xa
  x2 : xa ≤ 4611686018427387903
  x3 : 0 < xb
  x4 : xb ≤ 4611686018427387903
  y1 : -4611686018427387903 ≤ ya
  y2 : ya ≤ 4611686018427387903
  y3 : 0 < yb
  y4 : yb ≤ 4611686018427387903
  p1 : -4611686018427387903 ≤ xa * yb
  p2 : xa * yb ≤ 4611686018427387903
  q1 : -4611686018427387903 ≤ ya * xb
  q2 : ya * xb ≤ 4611686018427387903
  r1 : -4611686018427387903 ≤ xa * yb + - (ya * xb)
  r2 : xa * yb + - (ya * xb) ≤ 4611686018427387903
  d1 : xb * yb ≤ 4611686018427387903
structure SubI (gx gy : Nat) (xa xb ya yb : Int) (w0 W : World) (b0 b1 b6 b7 b8 b13 b14 b15 b16 : Bool) (g8 g9 g16 : Nat) (v7 v8 v9 v14 v15 v16 v21 v22 v23 : Value) : Prop where
  below : Below w0.heap.size w0 W
  box8 : Box b0 b15 (xa * yb + - (ya * xb)) w0.heap.size W g8 v8
  box9 : Box b1 b7 (xa * yb) w0.heap.size W g9 v9
  box16 : Box b8 b14 (ya * xb) w0.heap.size W g16 v16
  d89 : b0 = true → b1 = true → g8 ≠ g9
  d816 : b0 = true → b8 = true → g8 ≠ g16
  d916 : b1 = true → b8 = true → g9 ≠ g16
  p14 : b6 = true → v14 = ptr gy 2
  p21 : b13 = true → v21 = ptr gx 2
  p15 : b7 = true → v15 = ptr g9 0
  p22 : b14 = true → v22 = ptr g16 0
  p23 : b15 = true → v23 = ptr g8 0
  p7 : b16 = true → v7 = ptr g8 0
  o7 : b7 = true → b1 = true
  o14 : b14 = true → b8 = true
  o15 : b15 = true → b0 = true
  o16 : b16 = true → b15 = true
namespace SubI
variable {gx gy : Nat} {xa xb ya yb : Int} {w0 W : World} {b0 b1 b6 b7 b8 b13 b14 b15 b16 : Bool} {g8 g9 g16 : Nat} {v7 v8 v9 v14 v15 v16 v21 v22 v23 : Value}
theorem new0 (h : SubI gx gy xa xb ya yb w0 W b0 b1 b6 b7 b8 b13 b14 b15 b16 g8 g9 g16 v7 v8 v9 v14 v15 v16 v21 v22 v23) (hb : b0 = false) : SubI gx gy xa xb ya yb w0 (W.alloc (.cells #[.bool false, .slice none 0 0] 68)) true b1 b6 b7 b8 b13 b14 b15 b16 W.heap.size g9 g16 v7 (ptr W.heap.size 0) v9 v14 v15 v16 v21 v22 v23 :=
  { below := h.below.alloc h.below.size _, box8 := Box.fresh h.below.size h.o15 hb, box9 := h.box9.kept (zvB W), box16 := h.box16.kept (zvB W), d89 := fun _ e => fun x => absurd (h.box9.lt e) (by omega), d816 := fun _ e => fun x => absurd (h.box16.lt e) (by omega), d916 := h.d916, p14 := h.p14, p21 := h.p21, p15 := h.p15, p22 := h.p22, p23 := fun e => absurd (h.o15 e) (by rw [hb]; simp), p7 := fun e => absurd (h.o15 (h.o16 e)) (by rw [hb]; simp), o7 := h.o7, o14 := h.o14, o15 := fun _ => rfl, o16 := h.o16 }
theorem new1 (h : SubI gx gy xa xb ya yb w0 W b0 b1 b6 b7 b8 b13 b14 b15 b16 g8 g9 g16 v7 v8 v9 v14 v15 v16 v21 v22 v23) (hb : b1 = false) : SubI gx gy xa xb ya yb w0 (W.alloc (.cells #[.bool false, .slice none 0 0] 68)) b0 true b6 b7 b8 b13 b14 b15 b16 g8 W.heap.size g16 v7 v8 (ptr W.heap.size 0) v14 v15 v16 v21 v22 v23 :=
  { below := h.below.alloc h.below.size _, box8 := h.box8.kept (zvB W), box9 := Box.fresh h.below.size h.o7 hb, box16 := h.box16.kept (zvB W), d89 := fun e _ => fun x => absurd (h.box8.lt e) (by omega), d816 := h.d816, d916 := fun _ e => fun x => absurd (h.box16.lt e) (by omega), p14 := h.p14, p21 := h.p21, p15 := fun e => absurd (h.o7 e) (by rw [hb]; simp), p22 := h.p22, p23 := h.p23, p7 := h.p7, o7 := fun _ => rfl, o14 := h.o14, o15 := h.o15, o16 := h.o16 }
theorem new8 (h : SubI gx gy xa xb ya yb w0 W b0 b1 b6 b7 b8 b13 b14 b15 b16 g8 g9 g16 v7 v8 v9 v14 v15 v16 v21 v22 v23) (hb : b8 = false) : SubI gx gy xa xb ya yb w0 (W.alloc (.cells #[.bool false, .slice none 0 0] 68)) b0 b1 b6 b7 true b13 b14 b15 b16 g8 g9 W.heap.size v7 v8 v9 v14 v15 (ptr W.heap.size 0) v21 v22 v23 :=
  { below := h.below.alloc h.below.size _, box8 := h.box8.kept (zvB W), box9 := h.box9.kept (zvB W), box16 := Box.fresh h.below.size h.o14 hb, d89 := h.d89, d816 := fun e _ => fun x => absurd (h.box8.lt e) (by omega), d916 := fun e _ => fun x => absurd (h.box9.lt e) (by omega), p14 := h.p14, p21 := h.p21, p15 := h.p15, p22 := fun e => absurd (h.o14 e) (by rw [hb]; simp), p23 := h.p23, p7 := h.p7, o7 := h.o7, o14 := fun _ => rfl, o15 := h.o15, o16 := h.o16 }
theorem den6 (h : SubI gx gy xa xb ya yb w0 W b0 b1 b6 b7 b8 b13 b14 b15 b16 g8 g9 g16 v7 v8 v9 v14 v15 v16 v21 v22 v23) : SubI gx gy xa xb ya yb w0 W b0 b1 true b7 b8 b13 b14 b15 b16 g8 g9 g16 v7 v8 v9 (ptr gy 2) v15 v16 v21 v22 v23 := { h with p14 := fun _ => rfl }
theorem den13 (h : SubI gx gy xa xb ya yb w0 W b0 b1 b6 b7 b8 b13 b14 b15 b16 g8 g9 g16 v7 v8 v9 v14 v15 v16 v21 v22 v23) (_ : b7 = true) : SubI gx gy xa xb ya yb w0 W b0 b1 b6 b7 b8 true b14 b15 b16 g8 g9 g16 v7 v8 v9 v14 v15 v16 (ptr gx 2) v22 v23 := { h with p21 := fun _ => rfl }
theorem set16 (h : SubI gx gy xa xb ya yb w0 W b0 b1 b6 b7 b8 b13 b14 b15 b16 g8 g9 g16 v7 v8 v9 v14 v15 v16 v21 v22 v23) (e : b15 = true) : SubI gx gy xa xb ya yb w0 W b0 b1 b6 b7 b8 b13 b14 b15 true g8 g9 g16 v23 v8 v9 v14 v15 v16 v21 v22 v23 := { h with p7 := fun _ => h.p23 e, o16 := fun _ => e }
theorem call7 (h : SubI gx gy xa xb ya yb w0 W b0 b1 b6 b7 b8 b13 b14 b15 b16 g8 g9 g16 v7 v8 v9 v14 v15 v16 v21 v22 v23) (HX : RatAt w0 gx xa xb) (HY : RatAt w0 gy ya yb) (B : BdSub xa xb ya yb) (_ : b7 = false) (e1 : b1 = true) (e6 : b6 = true) :
    v9 = ptr g9 0 ∧ (True) ∧ v14 = ptr gy 2 ∧ Calls Tryd.prog 67 #[.pointer (some ⟨g9, 0, none⟩), .pointer (some ⟨gx, 0, none⟩), .pointer (some ⟨gy, 2, none⟩)] W fun e W2 => e = .returned (.pointer (some ⟨g9, 0, none⟩)) ∧ SubI gx gy xa xb ya yb w0 W2 b0 b1 b6 true b8 b13 b14 b15 b16 g8 g9 g16 v7 v8 v9 v14 (ptr g9 0) v16 v21 v22 v23 := by
  obtain ⟨q1, q2, ⟨cs, hB, hi⟩, _⟩ := h.box9 e1
  have hgx := HX.num.lt
  have hgy := HY.num.lt
  refine ⟨q1, trivial, h.p14 e6, (imul_z g9 cs _ gx 0 gy 2 xa yb W (HX.kept h.below).num (HY.kept h.below).den hB hi (by omega) (by omega) B.x1 B.x2 (by have := B.y3; omega) B.y4).mono ?_⟩
  rintro e W2 ⟨rfl, hO⟩
  exact ⟨rfl, { below := hO.below h.below q2, box8 := h.box8.tch hB hi.noW hO.1 (fun e => h.d89 e e1), box9 := fun _ => ⟨q1, q2, (hO.int hi).2, fun _ => (hO.int hi).1⟩, box16 := h.box16.tch hB hi.noW hO.1 (fun e => (h.d916 e1 e).symm), d89 := h.d89, d816 := h.d816, d916 := h.d916, p14 := h.p14, p21 := h.p21, p15 := fun _ => rfl, p22 := h.p22, p23 := h.p23, p7 := h.p7, o14 := h.o14, o15 := h.o15, o16 := h.o16, o7 := fun _ => e1 }⟩
theorem call14 (h : SubI gx gy xa xb ya yb w0 W b0 b1 b6 b7 b8 b13 b14 b15 b16 g8 g9 g16 v7 v8 v9 v14 v15 v16 v21 v22 v23) (HX : RatAt w0 gx xa xb) (HY : RatAt w0 gy ya yb) (B : BdSub xa xb ya yb) (_ : b14 = false) (e8 : b8 = true) (e13 : b13 = true) :
    v16 = ptr g16 0 ∧ (True) ∧ v21 = ptr gx 2 ∧ Calls Tryd.prog 67 #[.pointer (some ⟨g16, 0, none⟩), .pointer (some ⟨gy, 0, none⟩), .pointer (some ⟨gx, 2, none⟩)] W fun e W2 => e = .returned (.pointer (some ⟨g16, 0, none⟩)) ∧ SubI gx gy xa xb ya yb w0 W2 b0 b1 b6 b7 b8 b13 true b15 b16 g8 g9 g16 v7 v8 v9 v14 v15 v16 v21 (ptr g16 0) v23 := by
  obtain ⟨q1, q2, ⟨cs, hB, hi⟩, _⟩ := h.box16 e8
  have hgx := HX.num.lt
  have hgy := HY.num.lt
  refine ⟨q1, trivial, h.p21 e13, (imul_z g16 cs _ gy 0 gx 2 ya xb W (HY.kept h.below).num (HX.kept h.below).den hB hi (by omega) (by omega) B.y1 B.y2 (by have := B.x3; omega) B.x4).mono ?_⟩
  rintro e W2 ⟨rfl, hO⟩
  exact ⟨rfl, { below := hO.below h.below q2, box8 := h.box8.tch hB hi.noW hO.1 (fun e => h.d816 e e8), box9 := h.box9.tch hB hi.noW hO.1 (fun e => h.d916 e e8), box16 := fun _ => ⟨q1, q2, (hO.int hi).2, fun _ => (hO.int hi).1⟩, d89 := h.d89, d816 := h.d816, d916 := h.d916, p14 := h.p14, p21 := h.p21, p15 := h.p15, p22 := fun _ => rfl, p23 := h.p23, p7 := h.p7, o7 := h.o7, o15 := h.o15, o16 := h.o16, o14 := fun _ => e8 }⟩
theorem call15 (h : SubI gx gy xa xb ya yb w0 W b0 b1 b6 b7 b8 b13 b14 b15 b16 g8 g9 g16 v7 v8 v9 v14 v15 v16 v21 v22 v23) (_ : RatAt w0 gx xa xb) (_ : RatAt w0 gy ya yb) (B : BdSub xa xb ya yb) (_ : b15 = false) (e0 : b0 = true) (e7 : b7 = true) (e14 : b14 = true) :
    v8 = ptr g8 0 ∧ (v15 = ptr g9 0) ∧ v22 = ptr g16 0 ∧ Calls Tryd.prog 71 #[.pointer (some ⟨g8, 0, none⟩), .pointer (some ⟨g9, 0, none⟩), .pointer (some ⟨g16, 0, none⟩)] W fun e W2 => e = .returned (.pointer (some ⟨g8, 0, none⟩)) ∧ SubI gx gy xa xb ya yb w0 W2 b0 b1 b6 b7 b8 b13 b14 true b16 g8 g9 g16 v7 v8 v9 v14 v15 v16 v21 v22 (ptr g8 0) := by
  obtain ⟨q1, q2, ⟨cs, hB, hi⟩, _⟩ := h.box8 e0
  obtain ⟨_, _, _, z9⟩ := h.box9 (h.o7 e7)
  obtain ⟨_, _, _, z16⟩ := h.box16 (h.o14 e14)
  replace z9 := z9 e7
  replace z16 := z16 e14
  refine ⟨q1, h.p15 e7, h.p22 e14, (isub_z g8 cs _ g9 0 g16 0 (xa * yb) (ya * xb) W z9 z16 hB hi (fun x => h.d89 e0 (h.o7 e7) x.symm) (fun x => h.d816 e0 (h.o14 e14) x.symm) B.p1 B.p2 B.q1 B.q2).mono ?_⟩
  rintro e W2 ⟨rfl, hO⟩
  exact ⟨rfl, { below := hO.below h.below q2, box8 := fun _ => ⟨q1, q2, (hO.int hi).2, fun _ => (hO.int hi).1⟩, box9 := h.box9.tch hB hi.noW hO.1 (fun e => (h.d89 e0 e).symm), box16 := h.box16.tch hB hi.noW hO.1 (fun e => (h.d816 e0 e).symm), d89 := h.d89, d816 := h.d816, d916 := h.d916, p14 := h.p14, p21 := h.p21, p15 := h.p15, p22 := h.p22, p23 := fun _ => rfl, p7 := h.p7, o7 := h.o7, o14 := h.o14, o16 := fun _ => rfl, o15 := fun _ => e0 }⟩
end SubI
set_option maxHeartbeats 16000000 in
set_option maxRecDepth 100000 in
theorem rsub_z (gz gx gy : Nat) (cs : List Value) (xa xb ya yb : Int) (w : World) (hB : BlkAt w gz cs 70) (hV : RatV cs) (hx : RatAt w gx xa xb) (hy : RatAt w gy ya yb) (hbd : BdSub xa xb ya yb) :
    Calls Tryd.prog 46 #[.pointer (some ⟨gz, 0, none⟩), .pointer (some ⟨gx, 0, none⟩), .pointer (some ⟨gy, 0, none⟩)] w fun e w' => e = .returned (.pointer (some ⟨gz, 0, none⟩)) ∧ RatAt w' gz (numL (xa * yb + - (ya * xb)) (xb * yb)) (denL (xa * yb + - (ya * xb)) (xb * yb)) ∧ Tch [gz] w w' := by
  have HX := Hid.mk hx
  have HY := Hid.mk hy
  have HBD := Hid.mk hbd
  have HXB := Hid.mk hbd.x3
  have HYB := Hid.mk hbd.y3
  have HB := Hid.mk hB
  have HV := Hid.mk hV
  clear hx hy hbd hB hV
  go_enter Tryd.func46, Tryd.ntmps46
  go_wp2_with fail
  refine wp_region_any (by kernel_rfl) ?_
  refine wpAny_take (i := 2) (v := .pointer (some ⟨gx, 0, none⟩)) rfl (by kernel_rfl) (by kernel_rfl) (by kernel_rfl) (fun _ _ _ h => h) (Or.inl ⟨by rfl, fun _ => by rfl⟩) ?_
  simp only [List.getElem_toArray, List.getElem_cons_zero, List.getElem_cons_succ, Act.put, List.setIfInBounds_toArray, List.set_cons_zero, List.set_cons_succ]
  refine wpAny_take (i := 3) (v := .pointer (some ⟨gx, 0, none⟩)) rfl (by kernel_rfl) (by kernel_rfl) (by kernel_rfl) (fun _ _ _ h => h) (Or.inl ⟨by rfl, fun _ => by rfl⟩) ?_
  simp only [List.getElem_toArray, List.getElem_cons_zero, List.getElem_cons_succ, Act.put, List.setIfInBounds_toArray, List.set_cons_zero, List.set_cons_succ]
  refine wpAny_take (i := 4) (v := .pointer (some ⟨gx, 0, none⟩)) rfl (by kernel_rfl) (by kernel_rfl) (by kernel_rfl) (fun _ _ _ h => h) (Or.inl ⟨by rfl, fun _ => by rfl⟩) ?_
  simp only [List.getElem_toArray, List.getElem_cons_zero, List.getElem_cons_succ, Act.put, List.setIfInBounds_toArray, List.set_cons_zero, List.set_cons_succ]
  refine wpAny_take (i := 5) (v := .pointer (some ⟨gy, 0, none⟩)) rfl (by kernel_rfl) (by kernel_rfl) (by kernel_rfl) (fun _ _ _ h => h) (Or.inl ⟨by rfl, fun _ => by rfl⟩) ?_
  simp only [List.getElem_toArray, List.getElem_cons_zero, List.getElem_cons_succ, Act.put, List.setIfInBounds_toArray, List.set_cons_zero, List.set_cons_succ]
  refine wpAny_take (i := 9) (v := .pointer (some ⟨gy, 0, none⟩)) rfl (by kernel_rfl) (by kernel_rfl) (by kernel_rfl) (fun _ _ _ h => h) (Or.inl ⟨by rfl, fun _ => by rfl⟩) ?_
  simp only [List.getElem_toArray, List.getElem_cons_zero, List.getElem_cons_succ, Act.put, List.setIfInBounds_toArray, List.set_cons_zero, List.set_cons_succ]
  refine wpAny_take (i := 10) (v := .pointer (some ⟨gy, 0, none⟩)) rfl (by kernel_rfl) (by kernel_rfl) (by kernel_rfl) (fun _ _ _ h => h) (Or.inl ⟨by rfl, fun _ => by rfl⟩) ?_
  simp only [List.getElem_toArray, List.getElem_cons_zero, List.getElem_cons_succ, Act.put, List.setIfInBounds_toArray, List.set_cons_zero, List.set_cons_succ]
  refine wpAny_take (i := 11) (v := .pointer (some ⟨gy, 0, none⟩)) rfl (by kernel_rfl) (by kernel_rfl) (by kernel_rfl) (fun _ _ _ h => h) (Or.inl ⟨by rfl, fun _ => by rfl⟩) ?_
  simp only [List.getElem_toArray, List.getElem_cons_zero, List.getElem_cons_succ, Act.put, List.setIfInBounds_toArray, List.set_cons_zero, List.set_cons_succ]
  refine wpAny_take (i := 12) (v := .pointer (some ⟨gx, 0, none⟩)) rfl (by kernel_rfl) (by kernel_rfl) (by kernel_rfl) (fun _ _ _ h => h) (Or.inl ⟨by rfl, fun _ => by rfl⟩) ?_
  simp only [List.getElem_toArray, List.getElem_cons_zero, List.getElem_cons_succ, Act.put, List.setIfInBounds_toArray, List.set_cons_zero, List.set_cons_succ]
  refine Oi.wpAny_start (fun l a W => ∃ b0 b1 b6 b7 b8 b13 b14 b15 b16 g8 g9 g16 v7 v8 v9 v14 v15 v16 v21 v22 v23, l = #[b0, b1, true, true, true, true, b6, b7, b8, true, true, true, true, b13, b14, b15, b16] ∧ a = ⟨#[.pointer (some ⟨gz, 0, none⟩), .pointer (some ⟨gx, 0, none⟩), .pointer (some ⟨gy, 0, none⟩), undef, undef, undef, .pointer none, v7, v8, v9, .pointer (some ⟨gx, 0, none⟩), .pointer (some ⟨gx, 0, none⟩), .pointer (some ⟨gx, 0, none⟩), .pointer (some ⟨gy, 0, none⟩), v14, v15, v16, .pointer (some ⟨gy, 0, none⟩), .pointer (some ⟨gy, 0, none⟩), .pointer (some ⟨gy, 0, none⟩), .pointer (some ⟨gx, 0, none⟩), v21, v22, v23, undef, undef, undef, undef, undef, undef, undef, undef, undef], []⟩ ∧ SubI gx gy xa xb ya yb w W b0 b1 b6 b7 b8 b13 b14 b15 b16 g8 g9 g16 v7 v8 v9 v14 v15 v16 v21 v22 v23) #[false, false, true, true, true, true, false, false, false, true, true, true, true, false, false, false, false] (by kernel_rfl) (by kernel_rfl) ⟨false, false, false, false, false, false, false, false, false, 0, 0, 0, undef, undef, undef, undef, undef, undef, undef, undef, undef, rfl, rfl, ?_⟩ ?_ ?_
  · exact { below := ⟨rfl, rfl, rfl, Nat.le_refl _, fun _ _ => rfl⟩, box8 := fun e => Bool.noConfusion e, box9 := fun e => Bool.noConfusion e, box16 := fun e => Bool.noConfusion e, d89 := fun e => Bool.noConfusion e, d816 := fun e => Bool.noConfusion e, d916 := fun e => Bool.noConfusion e, p14 := fun e => Bool.noConfusion e, p21 := fun e => Bool.noConfusion e, p15 := fun e => Bool.noConfusion e, p22 := fun e => Bool.noConfusion e, p23 := fun e => Bool.noConfusion e, p7 := fun e => Bool.noConfusion e, o7 := fun e => Bool.noConfusion e, o14 := fun e => Bool.noConfusion e, o15 := fun e => Bool.noConfusion e, o16 := fun e => Bool.noConfusion e }
  rotate_left
  · rintro l a W i o ⟨b0, b1, b6, b7, b8, b13, b14, b15, b16, g8, g9, g16, v7, v8, v9, v14, v15, v16, v21, v22, v23, rfl, rfl, hI⟩ h0 ho hall K hK
    have hi : i < 17 := (Array.getElem?_eq_some_iff.1 ho).1
    have hii : i = 0 ∨ i = 1 ∨ i = 2 ∨ i = 3 ∨ i = 4 ∨ i = 5 ∨ i = 6 ∨ i = 7 ∨ i = 8 ∨ i = 9 ∨ i = 10 ∨ i = 11 ∨ i = 12 ∨ i = 13 ∨ i = 14 ∨ i = 15 ∨ i = 16 := by omega
    clear hi
    rcases hii with rfl | rfl | rfl | rfl | rfl | rfl | rfl | rfl | rfl | rfl | rfl | rfl | rfl | rfl | rfl | rfl | rfl
    · simp only [List.getElem?_toArray, List.getElem?_cons_zero, Option.some.injEq] at ho
      subst ho
      have hN := hI.new0 h0
      have HN := Hid.mk hN
      clear hN hall h0
      go_simp
      exact hK.out _ _ ⟨_, _, _, _, _, _, _, _, _, _, _, _, _, _, _, _, _, _, _, _, _, rfl, rfl, HN.out⟩
    · simp only [List.getElem?_toArray, List.getElem?_cons_zero, List.getElem?_cons_succ, Option.some.injEq] at ho
      subst ho
      have hN := hI.new1 h0
      have HN := Hid.mk hN
      clear hN hall h0
      go_simp
      exact hK.out _ _ ⟨_, _, _, _, _, _, _, _, _, _, _, _, _, _, _, _, _, _, _, _, _, rfl, rfl, HN.out⟩
    · exact Bool.noConfusion h0
    · exact Bool.noConfusion h0
    · exact Bool.noConfusion h0
    · exact Bool.noConfusion h0
    · simp only [List.getElem?_toArray, List.getElem?_cons_zero, List.getElem?_cons_succ, Option.some.injEq] at ho
      subst ho
      have HN := Hid.mk (hI.den6 )
      have HC := Hid.mk (den_z gy ya yb W (HY.out.kept hI.below) (by have := HYB.out; omega))
      clear hall h0 hI
      go_simp
      go_wp2_with fail
      with_reducible refine HC.out.mono ?_
      rintro e W2 ⟨rfl, hw2⟩
      obtain rfl := hw2.symm
      go_wp2_with fail
      exact hK.out _ _ ⟨_, _, _, _, _, _, _, _, _, _, _, _, _, _, _, _, _, _, _, _, _, rfl, rfl, HN.out⟩
    · simp only [List.getElem?_toArray, List.getElem?_cons_zero, List.getElem?_cons_succ, Option.some.injEq] at ho
      subst ho
      have e1 : b1 = true := hall ⟨1, .data⟩ (by simp) rfl
      have e6 : b6 = true := hall ⟨6, .data⟩ (by simp) rfl
      obtain ⟨hv1, hv2, hv3, hC⟩ := hI.call7 HX.out HY.out HBD.out h0 e1 e6
      unfold ptr at hv1 hv3
      have HC := Hid.mk hC
      subst hv1 hv3
      clear hC hall h0 hI
      go_simp
      go_wp2_with fail
      with_reducible refine HC.out.mono ?_
      rintro e W2 ⟨rfl, hI2⟩
      have HI2 := Hid.mk hI2
      clear hI2
      go_wp2_with fail
      exact hK.out _ _ ⟨_, _, _, _, _, _, _, _, _, _, _, _, _, _, _, _, _, _, _, _, _, rfl, rfl, HI2.out⟩
    · simp only [List.getElem?_toArray, List.getElem?_cons_zero, List.getElem?_cons_succ, Option.some.injEq] at ho
      subst ho
      have hN := hI.new8 h0
      have HN := Hid.mk hN
      clear hN hall h0
      go_simp
      exact hK.out _ _ ⟨_, _, _, _, _, _, _, _, _, _, _, _, _, _, _, _, _, _, _, _, _, rfl, rfl, HN.out⟩
    · exact Bool.noConfusion h0
    · exact Bool.noConfusion h0
    · exact Bool.noConfusion h0
    · exact Bool.noConfusion h0
    · simp only [List.getElem?_toArray, List.getElem?_cons_zero, List.getElem?_cons_succ, Option.some.injEq] at ho
      subst ho
      have e7 : b7 = true := hall ⟨7, .chain⟩ (by simp) rfl
      have HN := Hid.mk (hI.den13 e7 )
      have HC := Hid.mk (den_z gx xa xb W (HX.out.kept hI.below) (by have := HXB.out; omega))
      clear hall h0 hI
      go_simp
      go_wp2_with fail
      with_reducible refine HC.out.mono ?_
      rintro e W2 ⟨rfl, hw2⟩
      obtain rfl := hw2.symm
      go_wp2_with fail
      exact hK.out _ _ ⟨_, _, _, _, _, _, _, _, _, _, _, _, _, _, _, _, _, _, _, _, _, rfl, rfl, HN.out⟩
    · simp only [List.getElem?_toArray, List.getElem?_cons_zero, List.getElem?_cons_succ, Option.some.injEq] at ho
      subst ho
      have e8 : b8 = true := hall ⟨8, .data⟩ (by simp) rfl
      have e13 : b13 = true := hall ⟨13, .data⟩ (by simp) rfl
      obtain ⟨hv1, hv2, hv3, hC⟩ := hI.call14 HX.out HY.out HBD.out h0 e8 e13
      unfold ptr at hv1 hv3
      have HC := Hid.mk hC
      subst hv1 hv3
      clear hC hall h0 hI
      go_simp
      go_wp2_with fail
      with_reducible refine HC.out.mono ?_
      rintro e W2 ⟨rfl, hI2⟩
      have HI2 := Hid.mk hI2
      clear hI2
      go_wp2_with fail
      exact hK.out _ _ ⟨_, _, _, _, _, _, _, _, _, _, _, _, _, _, _, _, _, _, _, _, _, rfl, rfl, HI2.out⟩
    · simp only [List.getElem?_toArray, List.getElem?_cons_zero, List.getElem?_cons_succ, Option.some.injEq] at ho
      subst ho
      have e0 : b0 = true := hall ⟨0, .data⟩ (by simp) rfl
      have e7 : b7 = true := hall ⟨7, .data⟩ (by simp) rfl
      have e14 : b14 = true := hall ⟨14, .data⟩ (by simp) rfl
      obtain ⟨hv1, hv2, hv3, hC⟩ := hI.call15 HX.out HY.out HBD.out h0 e0 e7 e14
      unfold ptr at hv1 hv2 hv3
      have HC := Hid.mk hC
      subst hv1 hv2 hv3
      clear hC hall h0 hI
      go_simp
      go_wp2_with fail
      with_reducible refine HC.out.mono ?_
      rintro e W2 ⟨rfl, hI2⟩
      have HI2 := Hid.mk hI2
      clear hI2
      go_wp2_with fail
      exact hK.out _ _ ⟨_, _, _, _, _, _, _, _, _, _, _, _, _, _, _, _, _, _, _, _, _, rfl, rfl, HI2.out⟩
    · simp only [List.getElem?_toArray, List.getElem?_cons_zero, List.getElem?_cons_succ, Option.some.injEq] at ho
      subst ho
      have e15 : b15 = true := hall ⟨15, .data⟩ (by simp) rfl
      have HN := Hid.mk (hI.set16 e15)
      clear hall h0 hI
      go_simp
      exact hK.out _ _ ⟨_, _, _, _, _, _, _, _, _, _, _, _, _, _, _, _, _, _, _, _, _, rfl, rfl, HN.out⟩
  rintro l a W ⟨b0, b1, b6, b7, b8, b13, b14, b15, b16, g8, g9, g16, v7, v8, v9, v14, v15, v16, v21, v22, v23, rfl, rfl, hI⟩ hr
  cases b0 with
  | false => exact (Oi.ready_nil (i := 0) hr rfl rfl (by intro e he _; simp at he; try (rcases he with rfl <;> rfl))).elim
  | true =>
  cases b1 with
  | false => exact (Oi.ready_nil (i := 1) hr rfl rfl (by intro e he _; simp at he; try (rcases he with rfl <;> rfl))).elim
  | true =>
  cases b6 with
  | false => exact (Oi.ready_nil (i := 6) hr rfl rfl (by intro e he _; simp at he; try (rcases he with rfl <;> rfl))).elim
  | true =>
  cases b7 with
  | false => exact (Oi.ready_nil (i := 7) hr rfl rfl (by intro e he _; simp at he; try (rcases he with rfl | rfl | rfl | rfl <;> rfl))).elim
  | true =>
  cases b8 with
  | false => exact (Oi.ready_nil (i := 8) hr rfl rfl (by intro e he _; simp at he; try (rcases he with rfl <;> rfl))).elim
  | true =>
  cases b13 with
  | false => exact (Oi.ready_nil (i := 13) hr rfl rfl (by intro e he _; simp at he; try (rcases he with rfl | rfl <;> rfl))).elim
  | true =>
  cases b14 with
  | false => exact (Oi.ready_nil (i := 14) hr rfl rfl (by intro e he _; simp at he; try (rcases he with rfl | rfl | rfl | rfl <;> rfl))).elim
  | true =>
  cases b15 with
  | false => exact (Oi.ready_nil (i := 15) hr rfl rfl (by intro e he _; simp at he; try (rcases he with rfl | rfl | rfl | rfl <;> rfl))).elim
  | true =>
  cases b16 with
  | false => exact (Oi.ready_nil (i := 16) hr rfl rfl (by intro e he _; simp at he; try (rcases he with rfl | rfl | rfl | rfl | rfl | rfl | rfl | rfl | rfl | rfl | rfl | rfl | rfl | rfl | rfl | rfl | rfl | rfl <;> rfl))).elim
  | true =>
  clear hr
  have hp7 := hI.p7 rfl
  unfold ptr at hp7
  subst hp7
  obtain ⟨-, hg8, -, hz8⟩ := hI.box8 rfl
  replace hz8 := hz8 rfl
  have hbl := hI.below
  have hxl := HX.out.num.lt
  have hyl := HY.out.num.lt
  clear hI
  have HX2 := Hid.mk (HX.out.kept hbl)
  have HY2 := Hid.mk (HY.out.kept hbl)
  have hZ1 := zvB W
  have HD1 := Hid.mk (den_z gx xa xb _ (HX2.out.kept hZ1) (by have := HXB.out; omega))
  have HD2 := Hid.mk (den_z gy ya yb _ (HY2.out.kept hZ1) (by have := HYB.out; omega))
  have HM := Hid.mk (imul_z W.heap.size zvC _ gx 2 gy 2 xb yb _ (HX2.out.kept hZ1).den (HY2.out.kept hZ1).den (zv_new W) zv_int (by have := hbl.size; omega) (by have := hbl.size; omega) (by have := HXB.out; omega) HBD.out.x4 (by have := HYB.out; omega) HBD.out.y4)
  have HZ8 := Hid.mk (hz8.kept hZ1)
  have H8L := Hid.mk hz8.lt
  have HWL := Hid.mk hbl
  have HZ1 := Hid.mk hZ1
  clear hg8 hz8 hbl hxl hyl hZ1 HX2 HY2 HX HY
  go_wp2_with fail
  with_reducible refine HD1.out.mono ?_
  rintro e W2 ⟨rfl, hw2⟩
  obtain rfl := hw2.symm
  go_wp2_with fail
  with_reducible refine HD2.out.mono ?_
  rintro e W2 ⟨rfl, hw2⟩
  obtain rfl := hw2.symm
  go_wp2_with fail
  with_reducible refine HM.out.mono ?_
  rintro e W4 ⟨rfl, hO⟩
  have hbl4 := hO.below HZ1.out (Nat.le_refl _)
  have hz := (hO.int zv_int).1
  have hz8 : ZAt W4 g8 0 (xa * yb + - (ya * xb)) := HZ8.out.tch (zv_new W) zv_int.noW hO.1 (by have := H8L.out; omega)
  have hbW := bl2 HWL.out hbl4
  have HS := Hid.mk (setFrac_pos gz cs g8 0 W.heap.size 0 (xa * yb + - (ya * xb)) (xb * yb) W4 (HB.out.kept hbW) HV.out hz8 hz (Int.mul_pos HXB.out HYB.out) HBD.out.r1 HBD.out.r2 HBD.out.d1)
  have HBW := Hid.mk hbW
  clear hO hbl4 hz hz8 hbW
  go_wp2_with fail
  with_reducible refine HS.out.mono ?_
  rintro e W5 ⟨rfl, hR, ht⟩
  have HR := Hid.mk hR
  have HT := Hid.mk ((Tch.of HBW.out).trans ht)
  clear hR ht
  go_wp2_with fail
  go_ret
  exact ⟨rfl, HR.out, HT.out⟩
end Ww
end Go.Proofs.YtgknolliicachaaDoor
namespace Go.Proofs.YtgknolliicachaaDoor
open Go.ChangeShapes Go.WideShapes Go.ChangeAt Go.RowKit Go.Sort
namespace Ww
open Wm Sm
open Bw (Tch bl2 cell_kept)
open Oi (ptr Box)
structure BdMul (xa xb ya yb : Int) : Prop where
  x1 : -4611686018427387903 ≤ xa
  x2 : xa ≤ 4611686018427387903
  x3 : 0 < xb
  x4 : xb ≤ 4611686018427387903
  y1 : -4611686018427387903 ≤ ya
  y2 : ya ≤ 4611686018427387903
  y3 : 0 < yb
  y4 : yb ≤ 4611686018427387903
structure MulI (gz gx gy : Nat) (xa xb ya yb PP QQ : Int) (w0 W : World) (b1 b8 b9 b11 b13 b14 b15 b16 : Bool) (gA gB : Nat) (v8 v15 v16 v18 v20 v21 v22 v6 : Value) : Prop where
  below : b15 = false → Below w0.heap.size w0 W
  boxA : b15 = false → Box b1 b8 (xa * ya) w0.heap.size W gA v8
  boxB : b15 = false → Box b9 b14 (xb * yb) w0.heap.size W gB v16
  dAB : b1 = true → b9 = true → gA ≠ gB
  pD1 : b11 = true → v18 = ptr gx 2
  pD2 : b13 = true → v20 = ptr gy 2
  pA : b8 = true → v15 = ptr gA 0
  pB : b14 = true → v21 = ptr gB 0
  oA : b8 = true → b1 = true
  oB : b14 = true → b9 = true
  oD1 : b14 = true → b11 = true
  oD2 : b14 = true → b13 = true
  o15 : b15 = true → b1 = true ∧ b8 = true ∧ b9 = true ∧ b11 = true ∧ b13 = true ∧ b14 = true
  fin : b15 = true → v22 = ptr gz 0 ∧ RatAt W gz PP QQ ∧ Tch [gz] w0 W
  p6 : b16 = true → v6 = ptr gz 0
  o16 : b16 = true → b15 = true
namespace MulI
variable {gz gx gy : Nat} {xa xb ya yb PP QQ : Int} {w0 W : World} {b1 b8 b9 b11 b13 b14 b15 b16 : Bool} {gA gB : Nat} {v8 v15 v16 v18 v20 v21 v22 v6 : Value}
theorem not1 (h : MulI gz gx gy xa xb ya yb PP QQ w0 W b1 b8 b9 b11 b13 b14 b15 b16 gA gB v8 v15 v16 v18 v20 v21 v22 v6) (hb : b1 = false) : b15 = false := by
  cases e : b15 with
  | false => rfl
  | true => exact absurd (h.o15 e).1 (by rw [hb]; simp)
theorem not8 (h : MulI gz gx gy xa xb ya yb PP QQ w0 W b1 b8 b9 b11 b13 b14 b15 b16 gA gB v8 v15 v16 v18 v20 v21 v22 v6) (hb : b8 = false) : b15 = false := by
  cases e : b15 with
  | false => rfl
  | true => exact absurd (h.o15 e).2.1 (by rw [hb]; simp)
theorem not9 (h : MulI gz gx gy xa xb ya yb PP QQ w0 W b1 b8 b9 b11 b13 b14 b15 b16 gA gB v8 v15 v16 v18 v20 v21 v22 v6) (hb : b9 = false) : b15 = false := by
  cases e : b15 with
  | false => rfl
  | true => exact absurd (h.o15 e).2.2.1 (by rw [hb]; simp)
theorem not11 (h : MulI gz gx gy xa xb ya yb PP QQ w0 W b1 b8 b9 b11 b13 b14 b15 b16 gA gB v8 v15 v16 v18 v20 v21 v22 v6) (hb : b11 = false) : b15 = false := by
  cases e : b15 with
  | false => rfl
  | true => exact absurd (h.o15 e).2.2.2.1 (by rw [hb]; simp)
theorem not13 (h : MulI gz gx gy xa xb ya yb PP QQ w0 W b1 b8 b9 b11 b13 b14 b15 b16 gA gB v8 v15 v16 v18 v20 v21 v22 v6) (hb : b13 = false) : b15 = false := by
  cases e : b15 with
  | false => rfl
  | true => exact absurd (h.o15 e).2.2.2.2.1 (by rw [hb]; simp)
theorem not14 (h : MulI gz gx gy xa xb ya yb PP QQ w0 W b1 b8 b9 b11 b13 b14 b15 b16 gA gB v8 v15 v16 v18 v20 v21 v22 v6) (hb : b14 = false) : b15 = false := by
  cases e : b15 with
  | false => rfl
  | true => exact absurd (h.o15 e).2.2.2.2.2 (by rw [hb]; simp)
theorem new1 (h : MulI gz gx gy xa xb ya yb PP QQ w0 W b1 b8 b9 b11 b13 b14 b15 b16 gA gB v8 v15 v16 v18 v20 v21 v22 v6) (hb : b1 = false) : MulI gz gx gy xa xb ya yb PP QQ w0 (W.alloc (.cells #[.bool false, .slice none 0 0] 68)) true b8 b9 b11 b13 b14 b15 b16 W.heap.size gB (ptr W.heap.size 0) v15 v16 v18 v20 v21 v22 v6 :=
  have hn := h.not1 hb
  { below := fun _ => (h.below hn).alloc (h.below hn).size _, boxA := fun _ => Box.fresh (h.below hn).size h.oA hb, boxB := fun _ => (h.boxB hn).kept (zvB W), dAB := fun _ e => fun x => absurd ((h.boxB hn).lt e) (by omega), pD1 := h.pD1, pD2 := h.pD2, pA := fun e => absurd (h.oA e) (by rw [hb]; simp), pB := h.pB, oA := fun _ => rfl, oB := h.oB, oD1 := h.oD1, oD2 := h.oD2, o15 := fun e => Bool.noConfusion (hn.symm.trans e), fin := fun e => Bool.noConfusion (hn.symm.trans e), p6 := h.p6, o16 := h.o16 }
theorem new9 (h : MulI gz gx gy xa xb ya yb PP QQ w0 W b1 b8 b9 b11 b13 b14 b15 b16 gA gB v8 v15 v16 v18 v20 v21 v22 v6) (hb : b9 = false) : MulI gz gx gy xa xb ya yb PP QQ w0 (W.alloc (.cells #[.bool false, .slice none 0 0] 68)) b1 b8 true b11 b13 b14 b15 b16 gA W.heap.size v8 v15 (ptr W.heap.size 0) v18 v20 v21 v22 v6 :=
  have hn := h.not9 hb
  { below := fun _ => (h.below hn).alloc (h.below hn).size _, boxA := fun _ => (h.boxA hn).kept (zvB W), boxB := fun _ => Box.fresh (h.below hn).size h.oB hb, dAB := fun e _ => fun x => absurd ((h.boxA hn).lt e) (by omega), pD1 := h.pD1, pD2 := h.pD2, pA := h.pA, pB := fun e => absurd (h.oB e) (by rw [hb]; simp), oA := h.oA, oB := fun _ => rfl, oD1 := h.oD1, oD2 := h.oD2, o15 := fun e => Bool.noConfusion (hn.symm.trans e), fin := fun e => Bool.noConfusion (hn.symm.trans e), p6 := h.p6, o16 := h.o16 }
theorem den11 (h : MulI gz gx gy xa xb ya yb PP QQ w0 W b1 b8 b9 b11 b13 b14 b15 b16 gA gB v8 v15 v16 v18 v20 v21 v22 v6) (hb : b11 = false) : MulI gz gx gy xa xb ya yb PP QQ w0 W b1 b8 b9 true b13 b14 b15 b16 gA gB v8 v15 v16 (ptr gx 2) v20 v21 v22 v6 :=
  have hn := h.not11 hb
  { below := h.below, boxA := h.boxA, boxB := h.boxB, dAB := h.dAB, pD1 := fun _ => rfl, pD2 := h.pD2, pA := h.pA, pB := h.pB, oA := h.oA, oB := h.oB, oD1 := fun _ => rfl, oD2 := h.oD2, o15 := fun e => Bool.noConfusion (hn.symm.trans e), fin := fun e => Bool.noConfusion (hn.symm.trans e), p6 := h.p6, o16 := h.o16 }
theorem den13 (h : MulI gz gx gy xa xb ya yb PP QQ w0 W b1 b8 b9 b11 b13 b14 b15 b16 gA gB v8 v15 v16 v18 v20 v21 v22 v6) (hb : b13 = false) : MulI gz gx gy xa xb ya yb PP QQ w0 W b1 b8 b9 b11 true b14 b15 b16 gA gB v8 v15 v16 v18 (ptr gy 2) v21 v22 v6 :=
  have hn := h.not13 hb
  { below := h.below, boxA := h.boxA, boxB := h.boxB, dAB := h.dAB, pD1 := h.pD1, pD2 := fun _ => rfl, pA := h.pA, pB := h.pB, oA := h.oA, oB := h.oB, oD1 := h.oD1, oD2 := fun _ => rfl, o15 := fun e => Bool.noConfusion (hn.symm.trans e), fin := fun e => Bool.noConfusion (hn.symm.trans e), p6 := h.p6, o16 := h.o16 }
theorem set16 (h : MulI gz gx gy xa xb ya yb PP QQ w0 W b1 b8 b9 b11 b13 b14 b15 b16 gA gB v8 v15 v16 v18 v20 v21 v22 v6) (e : b15 = true) : MulI gz gx gy xa xb ya yb PP QQ w0 W b1 b8 b9 b11 b13 b14 b15 true gA gB v8 v15 v16 v18 v20 v21 v22 v22 := { below := h.below, boxA := h.boxA, boxB := h.boxB, dAB := h.dAB, pD1 := h.pD1, pD2 := h.pD2, pA := h.pA, pB := h.pB, oA := h.oA, oB := h.oB, oD1 := h.oD1, oD2 := h.oD2, o15 := h.o15, fin := h.fin, p6 := fun _ => (h.fin e).1, o16 := fun _ => e }
theorem call8 (h : MulI gz gx gy xa xb ya yb PP QQ w0 W b1 b8 b9 b11 b13 b14 b15 b16 gA gB v8 v15 v16 v18 v20 v21 v22 v6) (HX : RatAt w0 gx xa xb) (HY : RatAt w0 gy ya yb) (B : BdMul xa xb ya yb) (hb : b8 = false) (e1 : b1 = true) :
    v8 = ptr gA 0 ∧ (True) ∧ (True) ∧ Calls Tryd.prog 67 #[.pointer (some ⟨gA, 0, none⟩), .pointer (some ⟨gx, 0, none⟩), .pointer (some ⟨gy, 0, none⟩)] W fun e W2 => e = .returned (.pointer (some ⟨gA, 0, none⟩)) ∧ MulI gz gx gy xa xb ya yb PP QQ w0 W2 b1 true b9 b11 b13 b14 b15 b16 gA gB v8 (ptr gA 0) v16 v18 v20 v21 v22 v6 := by
  have hn := h.not8 hb
  obtain ⟨q1, q2, ⟨cs, hB, hi⟩, _⟩ := h.boxA hn e1
  have hgx := HX.num.lt
  have hgy := HY.num.lt
  refine ⟨q1, trivial, trivial, (imul_z gA cs _ gx 0 gy 0 xa ya W ((HX.kept (h.below hn)).num) ((HY.kept (h.below hn)).num) hB hi (by omega) (by omega) B.x1 B.x2 B.y1 B.y2).mono ?_⟩
  rintro e W2 ⟨rfl, hO⟩
  exact ⟨rfl, { below := fun _ => hO.below (h.below hn) q2, boxA := fun _ _ => ⟨q1, q2, (hO.int hi).2, fun _ => (hO.int hi).1⟩, boxB := fun _ => (h.boxB hn).tch hB hi.noW hO.1 (fun e => (h.dAB e1 e).symm), dAB := h.dAB, pD1 := h.pD1, pD2 := h.pD2, pA := fun _ => rfl, pB := h.pB, oA := fun _ => e1, oB := h.oB, oD1 := h.oD1, oD2 := h.oD2, o15 := fun e => Bool.noConfusion (hn.symm.trans e), fin := fun e => Bool.noConfusion (hn.symm.trans e), p6 := h.p6, o16 := h.o16 }⟩
theorem call14 (h : MulI gz gx gy xa xb ya yb PP QQ w0 W b1 b8 b9 b11 b13 b14 b15 b16 gA gB v8 v15 v16 v18 v20 v21 v22 v6) (HX : RatAt w0 gx xa xb) (HY : RatAt w0 gy ya yb) (B : BdMul xa xb ya yb) (hb : b14 = false) (e9 : b9 = true) (e11 : b11 = true) (e13 : b13 = true) :
    v16 = ptr gB 0 ∧ (v18 = ptr gx 2) ∧ (v20 = ptr gy 2) ∧ Calls Tryd.prog 67 #[.pointer (some ⟨gB, 0, none⟩), .pointer (some ⟨gx, 2, none⟩), .pointer (some ⟨gy, 2, none⟩)] W fun e W2 => e = .returned (.pointer (some ⟨gB, 0, none⟩)) ∧ MulI gz gx gy xa xb ya yb PP QQ w0 W2 b1 b8 b9 b11 b13 true b15 b16 gA gB v8 v15 v16 v18 v20 (ptr gB 0) v22 v6 := by
  have hn := h.not14 hb
  obtain ⟨q1, q2, ⟨cs, hB, hi⟩, _⟩ := h.boxB hn e9
  have hgx := HX.num.lt
  have hgy := HY.num.lt
  refine ⟨q1, h.pD1 e11, h.pD2 e13, (imul_z gB cs _ gx 2 gy 2 xb yb W ((HX.kept (h.below hn)).den) ((HY.kept (h.below hn)).den) hB hi (by omega) (by omega) (by have := B.x3; omega) B.x4 (by have := B.y3; omega) B.y4).mono ?_⟩
  rintro e W2 ⟨rfl, hO⟩
  exact ⟨rfl, { below := fun _ => hO.below (h.below hn) q2, boxA := fun _ => (h.boxA hn).tch hB hi.noW hO.1 (fun e => h.dAB e e9), boxB := fun _ _ => ⟨q1, q2, (hO.int hi).2, fun _ => (hO.int hi).1⟩, dAB := h.dAB, pD1 := h.pD1, pD2 := h.pD2, pA := h.pA, pB := fun _ => rfl, oA := h.oA, oB := fun _ => e9, oD1 := fun _ => e11, oD2 := fun _ => e13, o15 := fun e => Bool.noConfusion (hn.symm.trans e), fin := fun e => Bool.noConfusion (hn.symm.trans e), p6 := h.p6, o16 := h.o16 }⟩
theorem call15 (h : MulI gz gx gy xa xb ya yb PP QQ w0 W b1 b8 b9 b11 b13 b14 b15 b16 gA gB v8 v15 v16 v18 v20 v21 v22 v6) (HS : (∀ W gA gB, Below w0.heap.size w0 W → ZAt W gA 0 (xa * ya) → ZAt W gB 0 (xb * yb) → Calls Tryd.prog 65 #[.pointer (some ⟨gz, 0, none⟩), .pointer (some ⟨gA, 0, none⟩), .pointer (some ⟨gB, 0, none⟩)] W fun e w' => e = .returned (.pointer (some ⟨gz, 0, none⟩)) ∧ RatAt w' gz PP QQ ∧ Tch [gz] W w')) (hb : b15 = false) (e8 : b8 = true) (e14 : b14 = true) (eD1 : b11 = true) (eD2 : b13 = true) :
    v15 = ptr gA 0 ∧ v21 = ptr gB 0 ∧ Calls Tryd.prog 65 #[.pointer (some ⟨gz, 0, none⟩), .pointer (some ⟨gA, 0, none⟩), .pointer (some ⟨gB, 0, none⟩)] W fun e W2 => e = .returned (.pointer (some ⟨gz, 0, none⟩)) ∧ MulI gz gx gy xa xb ya yb PP QQ w0 W2 b1 b8 b9 b11 b13 b14 true b16 gA gB v8 v15 v16 v18 v20 v21 (ptr gz 0) v6 := by
  obtain ⟨_, _, _, zA⟩ := h.boxA hb (h.oA e8)
  obtain ⟨_, _, _, zB⟩ := h.boxB hb (h.oB e14)
  refine ⟨h.pA e8, h.pB e14, (HS W gA gB (h.below hb) (zA e8) (zB e14)).mono ?_⟩
  rintro e W2 ⟨rfl, hR, ht⟩
  exact ⟨rfl, { below := fun e => Bool.noConfusion e, boxA := fun e => Bool.noConfusion e, boxB := fun e => Bool.noConfusion e, dAB := h.dAB, pD1 := h.pD1, pD2 := h.pD2, pA := h.pA, pB := h.pB, oA := h.oA, oB := h.oB, oD1 := h.oD1, oD2 := h.oD2, o15 := fun _ => ⟨h.oA e8, e8, h.oB e14, eD1, eD2, e14⟩, fin := fun _ => ⟨rfl, hR, (Tch.of (h.below hb)).trans ht⟩, p6 := h.p6, o16 := fun _ => rfl }⟩
end MulI
set_option maxHeartbeats 16000000 in
set_option maxRecDepth 100000 in
theorem rmul_z (gz gx gy : Nat) (xa xb ya yb PP QQ : Int) (w0 : World) (hx : RatAt w0 gx xa xb) (hy : RatAt w0 gy ya yb) (hbd : BdMul xa xb ya yb) (hS : (∀ W gA gB, Below w0.heap.size w0 W → ZAt W gA 0 (xa * ya) → ZAt W gB 0 (xb * yb) → Calls Tryd.prog 65 #[.pointer (some ⟨gz, 0, none⟩), .pointer (some ⟨gA, 0, none⟩), .pointer (some ⟨gB, 0, none⟩)] W fun e w' => e = .returned (.pointer (some ⟨gz, 0, none⟩)) ∧ RatAt w' gz PP QQ ∧ Tch [gz] W w')) :
    Calls Tryd.prog 47 #[.pointer (some ⟨gz, 0, none⟩), .pointer (some ⟨gx, 0, none⟩), .pointer (some ⟨gy, 0, none⟩)] w0 fun e w' => e = .returned (.pointer (some ⟨gz, 0, none⟩)) ∧ RatAt w' gz PP QQ ∧ Tch [gz] w0 w' := by
  have HX := Hid.mk hx
  have HY := Hid.mk hy
  have HBD := Hid.mk hbd
  have HS := Hid.mk hS
  clear hx hy hbd hS
  go_enter Tryd.func47, Tryd.ntmps47
  go_wp2_with fail
  refine wp_region_any (by kernel_rfl) ?_
  refine wpAny_take (i := 0) (v := .pointer (some ⟨gz, 0, none⟩)) rfl (by kernel_rfl) (by kernel_rfl) (by kernel_rfl) (fun _ _ _ h => h) (Or.inl ⟨by rfl, fun _ => by rfl⟩) ?_
  simp only [List.getElem_toArray, List.getElem_cons_zero, Act.put, List.setIfInBounds_toArray, List.set_cons_zero, List.set_cons_succ]
  refine wpAny_take (i := 2) (v := .pointer (some ⟨gx, 0, none⟩)) rfl (by kernel_rfl) (by kernel_rfl) (by kernel_rfl) (fun _ _ _ h => h) (Or.inl ⟨by rfl, fun _ => by rfl⟩) ?_
  simp only [List.getElem_toArray, List.getElem_cons_zero, List.getElem_cons_succ, Act.put, List.setIfInBounds_toArray, List.set_cons_zero, List.set_cons_succ]
  refine wpAny_take (i := 3) (v := .pointer (some ⟨gx, 0, none⟩)) rfl (by kernel_rfl) (by kernel_rfl) (by kernel_rfl) (fun _ _ _ h => h) (Or.inl ⟨by rfl, fun _ => by rfl⟩) ?_
  simp only [List.getElem_toArray, List.getElem_cons_zero, List.getElem_cons_succ, Act.put, List.setIfInBounds_toArray, List.set_cons_zero, List.set_cons_succ]
  refine wpAny_take (i := 4) (v := .pointer (some ⟨gx, 0, none⟩)) rfl (by kernel_rfl) (by kernel_rfl) (by kernel_rfl) (fun _ _ _ h => h) (Or.inl ⟨by rfl, fun _ => by rfl⟩) ?_
  simp only [List.getElem_toArray, List.getElem_cons_zero, List.getElem_cons_succ, Act.put, List.setIfInBounds_toArray, List.set_cons_zero, List.set_cons_succ]
  refine wpAny_take (i := 5) (v := .pointer (some ⟨gy, 0, none⟩)) rfl (by kernel_rfl) (by kernel_rfl) (by kernel_rfl) (fun _ _ _ h => h) (Or.inl ⟨by rfl, fun _ => by rfl⟩) ?_
  simp only [List.getElem_toArray, List.getElem_cons_zero, List.getElem_cons_succ, Act.put, List.setIfInBounds_toArray, List.set_cons_zero, List.set_cons_succ]
  refine wpAny_take (i := 6) (v := .pointer (some ⟨gy, 0, none⟩)) rfl (by kernel_rfl) (by kernel_rfl) (by kernel_rfl) (fun _ _ _ h => h) (Or.inl ⟨by rfl, fun _ => by rfl⟩) ?_
  simp only [List.getElem_toArray, List.getElem_cons_zero, List.getElem_cons_succ, Act.put, List.setIfInBounds_toArray, List.set_cons_zero, List.set_cons_succ]
  refine wpAny_take (i := 7) (v := .pointer (some ⟨gy, 0, none⟩)) rfl (by kernel_rfl) (by kernel_rfl) (by kernel_rfl) (fun _ _ _ h => h) (Or.inl ⟨by rfl, fun _ => by rfl⟩) ?_
  simp only [List.getElem_toArray, List.getElem_cons_zero, List.getElem_cons_succ, Act.put, List.setIfInBounds_toArray, List.set_cons_zero, List.set_cons_succ]
  refine wpAny_take (i := 10) (v := .pointer (some ⟨gx, 0, none⟩)) rfl (by kernel_rfl) (by kernel_rfl) (by kernel_rfl) (fun _ _ _ h => h) (Or.inl ⟨by rfl, fun _ => by rfl⟩) ?_
  simp only [List.getElem_toArray, List.getElem_cons_zero, List.getElem_cons_succ, Act.put, List.setIfInBounds_toArray, List.set_cons_zero, List.set_cons_succ]
  refine wpAny_take (i := 12) (v := .pointer (some ⟨gy, 0, none⟩)) rfl (by kernel_rfl) (by kernel_rfl) (by kernel_rfl) (fun _ _ _ h => h) (Or.inl ⟨by rfl, fun _ => by rfl⟩) ?_
  simp only [List.getElem_toArray, List.getElem_cons_zero, List.getElem_cons_succ, Act.put, List.setIfInBounds_toArray, List.set_cons_zero, List.set_cons_succ]
  refine Oi.wpAny_start (fun l a W => ∃ b1 b8 b9 b11 b13 b14 b15 b16 gA gB v8 v15 v16 v18 v20 v21 v22 v6, l = #[true, b1, true, true, true, true, true, true, b8, b9, true, b11, true, b13, b14, b15, b16] ∧ a = ⟨#[.pointer (some ⟨gz, 0, none⟩), .pointer (some ⟨gx, 0, none⟩), .pointer (some ⟨gy, 0, none⟩), undef, undef, undef, v6, .pointer (some ⟨gz, 0, none⟩), v8, .pointer (some ⟨gx, 0, none⟩), .pointer (some ⟨gx, 0, none⟩), .pointer (some ⟨gx, 0, none⟩), .pointer (some ⟨gy, 0, none⟩), .pointer (some ⟨gy, 0, none⟩), .pointer (some ⟨gy, 0, none⟩), v15, v16, .pointer (some ⟨gx, 0, none⟩), v18, .pointer (some ⟨gy, 0, none⟩), v20, v21, v22], []⟩ ∧ MulI gz gx gy xa xb ya yb PP QQ w0 W b1 b8 b9 b11 b13 b14 b15 b16 gA gB v8 v15 v16 v18 v20 v21 v22 v6) #[true, false, true, true, true, true, true, true, false, false, true, false, true, false, false, false, false] (by kernel_rfl) (by kernel_rfl) ⟨false, false, false, false, false, false, false, false, 0, 0, undef, undef, undef, undef, undef, undef, undef, .pointer none, rfl, rfl, ?_⟩ ?_ ?_
  · exact { below := fun _ => ⟨rfl, rfl, rfl, Nat.le_refl _, fun _ _ => rfl⟩, boxA := fun _ e => Bool.noConfusion e, boxB := fun _ e => Bool.noConfusion e, dAB := fun e => Bool.noConfusion e, pD1 := fun e => Bool.noConfusion e, pD2 := fun e => Bool.noConfusion e, pA := fun e => Bool.noConfusion e, pB := fun e => Bool.noConfusion e, oA := fun e => Bool.noConfusion e, oB := fun e => Bool.noConfusion e, oD1 := fun e => Bool.noConfusion e, oD2 := fun e => Bool.noConfusion e, o15 := fun e => Bool.noConfusion e, fin := fun e => Bool.noConfusion e, p6 := fun e => Bool.noConfusion e, o16 := fun e => Bool.noConfusion e }
  rotate_left
  · rintro l a W i o ⟨b1, b8, b9, b11, b13, b14, b15, b16, gA, gB, v8, v15, v16, v18, v20, v21, v22, v6, rfl, rfl, hI⟩ h0 ho hall K hK
    have hi : i < 17 := (Array.getElem?_eq_some_iff.1 ho).1
    have hii : i = 0 ∨ i = 1 ∨ i = 2 ∨ i = 3 ∨ i = 4 ∨ i = 5 ∨ i = 6 ∨ i = 7 ∨ i = 8 ∨ i = 9 ∨ i = 10 ∨ i = 11 ∨ i = 12 ∨ i = 13 ∨ i = 14 ∨ i = 15 ∨ i = 16 := by omega
    clear hi
    rcases hii with rfl | rfl | rfl | rfl | rfl | rfl | rfl | rfl | rfl | rfl | rfl | rfl | rfl | rfl | rfl | rfl | rfl
    · exact Bool.noConfusion h0
    · simp only [List.getElem?_toArray, List.getElem?_cons_zero, List.getElem?_cons_succ, Option.some.injEq] at ho
      subst ho
      have HN := Hid.mk (hI.new1 h0)
      clear hall h0
      go_simp
      exact hK.out _ _ ⟨_, _, _, _, _, _, _, _, _, _, _, _, _, _, _, _, _, _, rfl, rfl, HN.out⟩
    · exact Bool.noConfusion h0
    · exact Bool.noConfusion h0
    · exact Bool.noConfusion h0
    · exact Bool.noConfusion h0
    · exact Bool.noConfusion h0
    · exact Bool.noConfusion h0
    · simp only [List.getElem?_toArray, List.getElem?_cons_zero, List.getElem?_cons_succ, Option.some.injEq] at ho
      subst ho
      have e1 : b1 = true := hall ⟨1, .data⟩ (by simp) rfl
      obtain ⟨hv1, hv2, hv3, hC⟩ := hI.call8 HX.out HY.out HBD.out h0 e1
      unfold ptr at hv1
      have HC := Hid.mk hC
      subst hv1
      clear hC hall h0 hI
      go_simp
      go_wp2_with fail
      with_reducible refine HC.out.mono ?_
      rintro e W2 ⟨rfl, hI2⟩
      have HI2 := Hid.mk hI2
      clear hI2
      go_wp2_with fail
      exact hK.out _ _ ⟨_, _, _, _, _, _, _, _, _, _, _, _, _, _, _, _, _, _, rfl, rfl, HI2.out⟩
    · simp only [List.getElem?_toArray, List.getElem?_cons_zero, List.getElem?_cons_succ, Option.some.injEq] at ho
      subst ho
      have HN := Hid.mk (hI.new9 h0)
      clear hall h0
      go_simp
      exact hK.out _ _ ⟨_, _, _, _, _, _, _, _, _, _, _, _, _, _, _, _, _, _, rfl, rfl, HN.out⟩
    · exact Bool.noConfusion h0
    · simp only [List.getElem?_toArray, List.getElem?_cons_zero, List.getElem?_cons_succ, Option.some.injEq] at ho
      subst ho
      have HN := Hid.mk (hI.den11 h0)
      have HC := Hid.mk (den_z gx xa xb W (HX.out.kept (hI.below (hI.not11 h0))) (by have := HBD.out.x3; omega))
      clear hall h0 hI
      go_simp
      go_wp2_with fail
      with_reducible refine HC.out.mono ?_
      rintro e W2 ⟨rfl, hw2⟩
      obtain rfl := hw2.symm
      go_wp2_with fail
      exact hK.out _ _ ⟨_, _, _, _, _, _, _, _, _, _, _, _, _, _, _, _, _, _, rfl, rfl, HN.out⟩
    · exact Bool.noConfusion h0
    · simp only [List.getElem?_toArray, List.getElem?_cons_zero, List.getElem?_cons_succ, Option.some.injEq] at ho
      subst ho
      have HN := Hid.mk (hI.den13 h0)
      have HC := Hid.mk (den_z gy ya yb W (HY.out.kept (hI.below (hI.not13 h0))) (by have := HBD.out.y3; omega))
      clear hall h0 hI
      go_simp
      go_wp2_with fail
      with_reducible refine HC.out.mono ?_
      rintro e W2 ⟨rfl, hw2⟩
      obtain rfl := hw2.symm
      go_wp2_with fail
      exact hK.out _ _ ⟨_, _, _, _, _, _, _, _, _, _, _, _, _, _, _, _, _, _, rfl, rfl, HN.out⟩
    · simp only [List.getElem?_toArray, List.getElem?_cons_zero, List.getElem?_cons_succ, Option.some.injEq] at ho
      subst ho
      have e9 : b9 = true := hall ⟨9, .data⟩ (by simp) rfl
      have e11 : b11 = true := hall ⟨11, .data⟩ (by simp) rfl
      have e13 : b13 = true := hall ⟨13, .data⟩ (by simp) rfl
      obtain ⟨hv1, hv2, hv3, hC⟩ := hI.call14 HX.out HY.out HBD.out h0 e9 e11 e13
      unfold ptr at hv1 hv2 hv3
      have HC := Hid.mk hC
      subst hv1 hv2 hv3
      clear hC hall h0 hI
      go_simp
      go_wp2_with fail
      with_reducible refine HC.out.mono ?_
      rintro e W2 ⟨rfl, hI2⟩
      have HI2 := Hid.mk hI2
      clear hI2
      go_wp2_with fail
      exact hK.out _ _ ⟨_, _, _, _, _, _, _, _, _, _, _, _, _, _, _, _, _, _, rfl, rfl, HI2.out⟩
    · simp only [List.getElem?_toArray, List.getElem?_cons_zero, List.getElem?_cons_succ, Option.some.injEq] at ho
      subst ho
      have e8 : b8 = true := hall ⟨8, .data⟩ (by simp) rfl
      have e14 : b14 = true := hall ⟨14, .data⟩ (by simp) rfl
      obtain ⟨hv1, hv2, hC⟩ := hI.call15 HS.out h0 e8 e14 (hI.oD1 e14) (hI.oD2 e14)
      unfold ptr at hv1 hv2
      have HC := Hid.mk hC
      subst hv1 hv2
      clear hC hall h0 hI
      go_simp
      go_wp2_with fail
      with_reducible refine HC.out.mono ?_
      rintro e W2 ⟨rfl, hI2⟩
      have HI2 := Hid.mk hI2
      clear hI2
      go_wp2_with fail
      exact hK.out _ _ ⟨_, _, _, _, _, _, _, _, _, _, _, _, _, _, _, _, _, _, rfl, rfl, HI2.out⟩
    · simp only [List.getElem?_toArray, List.getElem?_cons_zero, List.getElem?_cons_succ, Option.some.injEq] at ho
      subst ho
      have e15 : b15 = true := hall ⟨15, .data⟩ (by simp) rfl
      have HN := Hid.mk (hI.set16 e15)
      clear hall h0 hI
      go_simp
      exact hK.out _ _ ⟨_, _, _, _, _, _, _, _, _, _, _, _, _, _, _, _, _, _, rfl, rfl, HN.out⟩
  rintro l a W ⟨b1, b8, b9, b11, b13, b14, b15, b16, gA, gB, v8, v15, v16, v18, v20, v21, v22, v6, rfl, rfl, hI⟩ hr
  cases b1 with
  | false => exact (Oi.ready_nil (i := 1) hr rfl rfl (by intro e he _; simp at he; try (first | (rcases he with rfl | rfl | rfl | rfl | rfl | rfl | rfl | rfl | rfl | rfl | rfl | rfl | rfl | rfl | rfl | rfl | rfl | rfl <;> rfl) | (rcases he with rfl | rfl | rfl | rfl | rfl | rfl <;> rfl) | (rcases he with rfl | rfl | rfl | rfl | rfl <;> rfl) | (rcases he with rfl | rfl | rfl | rfl <;> rfl) | (rcases he with rfl | rfl | rfl <;> rfl) | (rcases he with rfl | rfl <;> rfl) | (rcases he with rfl; rfl)))).elim
  | true =>
  cases b8 with
  | false => exact (Oi.ready_nil (i := 8) hr rfl rfl (by intro e he _; simp at he; try (first | (rcases he with rfl | rfl | rfl | rfl | rfl | rfl | rfl | rfl | rfl | rfl | rfl | rfl | rfl | rfl | rfl | rfl | rfl | rfl <;> rfl) | (rcases he with rfl | rfl | rfl | rfl | rfl | rfl <;> rfl) | (rcases he with rfl | rfl | rfl | rfl | rfl <;> rfl) | (rcases he with rfl | rfl | rfl | rfl <;> rfl) | (rcases he with rfl | rfl | rfl <;> rfl) | (rcases he with rfl | rfl <;> rfl) | (rcases he with rfl; rfl)))).elim
  | true =>
  cases b9 with
  | false => exact (Oi.ready_nil (i := 9) hr rfl rfl (by intro e he _; simp at he; try (first | (rcases he with rfl | rfl | rfl | rfl | rfl | rfl | rfl | rfl | rfl | rfl | rfl | rfl | rfl | rfl | rfl | rfl | rfl | rfl <;> rfl) | (rcases he with rfl | rfl | rfl | rfl | rfl | rfl <;> rfl) | (rcases he with rfl | rfl | rfl | rfl | rfl <;> rfl) | (rcases he with rfl | rfl | rfl | rfl <;> rfl) | (rcases he with rfl | rfl | rfl <;> rfl) | (rcases he with rfl | rfl <;> rfl) | (rcases he with rfl; rfl)))).elim
  | true =>
  cases b11 with
  | false => exact (Oi.ready_nil (i := 11) hr rfl rfl (by intro e he _; simp at he; try (first | (rcases he with rfl | rfl | rfl | rfl | rfl | rfl | rfl | rfl | rfl | rfl | rfl | rfl | rfl | rfl | rfl | rfl | rfl | rfl <;> rfl) | (rcases he with rfl | rfl | rfl | rfl | rfl | rfl <;> rfl) | (rcases he with rfl | rfl | rfl | rfl | rfl <;> rfl) | (rcases he with rfl | rfl | rfl | rfl <;> rfl) | (rcases he with rfl | rfl | rfl <;> rfl) | (rcases he with rfl | rfl <;> rfl) | (rcases he with rfl; rfl)))).elim
  | true =>
  cases b13 with
  | false => exact (Oi.ready_nil (i := 13) hr rfl rfl (by intro e he _; simp at he; try (first | (rcases he with rfl | rfl | rfl | rfl | rfl | rfl | rfl | rfl | rfl | rfl | rfl | rfl | rfl | rfl | rfl | rfl | rfl | rfl <;> rfl) | (rcases he with rfl | rfl | rfl | rfl | rfl | rfl <;> rfl) | (rcases he with rfl | rfl | rfl | rfl | rfl <;> rfl) | (rcases he with rfl | rfl | rfl | rfl <;> rfl) | (rcases he with rfl | rfl | rfl <;> rfl) | (rcases he with rfl | rfl <;> rfl) | (rcases he with rfl; rfl)))).elim
  | true =>
  cases b14 with
  | false => exact (Oi.ready_nil (i := 14) hr rfl rfl (by intro e he _; simp at he; try (first | (rcases he with rfl | rfl | rfl | rfl | rfl | rfl | rfl | rfl | rfl | rfl | rfl | rfl | rfl | rfl | rfl | rfl | rfl | rfl <;> rfl) | (rcases he with rfl | rfl | rfl | rfl | rfl | rfl <;> rfl) | (rcases he with rfl | rfl | rfl | rfl | rfl <;> rfl) | (rcases he with rfl | rfl | rfl | rfl <;> rfl) | (rcases he with rfl | rfl | rfl <;> rfl) | (rcases he with rfl | rfl <;> rfl) | (rcases he with rfl; rfl)))).elim
  | true =>
  cases b15 with
  | false => exact (Oi.ready_nil (i := 15) hr rfl rfl (by intro e he _; simp at he; try (first | (rcases he with rfl | rfl | rfl | rfl | rfl | rfl | rfl | rfl | rfl | rfl | rfl | rfl | rfl | rfl | rfl | rfl | rfl | rfl <;> rfl) | (rcases he with rfl | rfl | rfl | rfl | rfl | rfl <;> rfl) | (rcases he with rfl | rfl | rfl | rfl | rfl <;> rfl) | (rcases he with rfl | rfl | rfl | rfl <;> rfl) | (rcases he with rfl | rfl | rfl <;> rfl) | (rcases he with rfl | rfl <;> rfl) | (rcases he with rfl; rfl)))).elim
  | true =>
  cases b16 with
  | false => exact (Oi.ready_nil (i := 16) hr rfl rfl (by intro e he _; simp at he; try (first | (rcases he with rfl | rfl | rfl | rfl | rfl | rfl | rfl | rfl | rfl | rfl | rfl | rfl | rfl | rfl | rfl | rfl | rfl | rfl <;> rfl) | (rcases he with rfl | rfl | rfl | rfl | rfl | rfl <;> rfl) | (rcases he with rfl | rfl | rfl | rfl | rfl <;> rfl) | (rcases he with rfl | rfl | rfl | rfl <;> rfl) | (rcases he with rfl | rfl | rfl <;> rfl) | (rcases he with rfl | rfl <;> rfl) | (rcases he with rfl; rfl)))).elim
  | true =>
  clear hr
  have hp6 := hI.p6 rfl
  unfold ptr at hp6
  subst hp6
  obtain ⟨-, hR, ht⟩ := hI.fin rfl
  have HR := Hid.mk hR
  have HT := Hid.mk ht
  clear hI hR ht
  go_wp2_with fail
  go_ret
  exact ⟨rfl, HR.out, HT.out⟩
end Ww
end Go.Proofs.YtgknolliicachaaDoor
namespace Go.Proofs.YtgknolliicachaaDoor
open Go.ChangeShapes Go.WideShapes Go.ChangeAt Go.RowKit Go.Sort
namespace Ww
open Wm Sm
open Bw (Tch bl2 cell_kept)
open Oi (ptr Box)
structure BdQuo (xa xb ya yb : Int) : Prop where
  x1 : -4611686018427387903 ≤ xa
  x2 : xa ≤ 4611686018427387903
  x3 : 0 < xb
  x4 : xb ≤ 4611686018427387903
  y1 : -4611686018427387903 ≤ ya
  y2 : ya ≤ 4611686018427387903
  y3 : 0 < yb
  y4 : yb ≤ 4611686018427387903
structure QuoI (gz gx gy : Nat) (xa xb ya yb PP QQ : Int) (w0 W : World) (b1 b6 b7 b8 b10 b14 b15 b16 : Bool) (gA gB : Nat) (v8 v13 v14 v15 v17 v21 v22 v6 : Value) : Prop where
  below : b15 = false → Below w0.heap.size w0 W
  boxA : b15 = false → Box b1 b7 (xa * yb) w0.heap.size W gA v8
  boxB : b15 = false → Box b8 b14 (xb * ya) w0.heap.size W gB v15
  dAB : b1 = true → b8 = true → gA ≠ gB
  pD1 : b10 = true → v17 = ptr gx 2
  pD2 : b6 = true → v13 = ptr gy 2
  pA : b7 = true → v14 = ptr gA 0
  pB : b14 = true → v21 = ptr gB 0
  oA : b7 = true → b1 = true
  oB : b14 = true → b8 = true
  oD1 : b14 = true → b10 = true
  oD2 : b7 = true → b6 = true
  o15 : b15 = true → b1 = true ∧ b6 = true ∧ b7 = true ∧ b8 = true ∧ b10 = true ∧ b14 = true
  fin : b15 = true → v22 = ptr gz 0 ∧ RatAt W gz PP QQ ∧ Tch [gz] w0 W
  p6 : b16 = true → v6 = ptr gz 0
  o16 : b16 = true → b15 = true
namespace QuoI
variable {gz gx gy : Nat} {xa xb ya yb PP QQ : Int} {w0 W : World} {b1 b6 b7 b8 b10 b14 b15 b16 : Bool} {gA gB : Nat} {v8 v13 v14 v15 v17 v21 v22 v6 : Value}
theorem not1 (h : QuoI gz gx gy xa xb ya yb PP QQ w0 W b1 b6 b7 b8 b10 b14 b15 b16 gA gB v8 v13 v14 v15 v17 v21 v22 v6) (hb : b1 = false) : b15 = false := by
  cases e : b15 with
  | false => rfl
  | true => exact absurd (h.o15 e).1 (by rw [hb]; simp)
theorem not6 (h : QuoI gz gx gy xa xb ya yb PP QQ w0 W b1 b6 b7 b8 b10 b14 b15 b16 gA gB v8 v13 v14 v15 v17 v21 v22 v6) (hb : b6 = false) : b15 = false := by
  cases e : b15 with
  | false => rfl
  | true => exact absurd (h.o15 e).2.1 (by rw [hb]; simp)
theorem not7 (h : QuoI gz gx gy xa xb ya yb PP QQ w0 W b1 b6 b7 b8 b10 b14 b15 b16 gA gB v8 v13 v14 v15 v17 v21 v22 v6) (hb : b7 = false) : b15 = false := by
  cases e : b15 with
  | false => rfl
  | true => exact absurd (h.o15 e).2.2.1 (by rw [hb]; simp)
theorem not8 (h : QuoI gz gx gy xa xb ya yb PP QQ w0 W b1 b6 b7 b8 b10 b14 b15 b16 gA gB v8 v13 v14 v15 v17 v21 v22 v6) (hb : b8 = false) : b15 = false := by
  cases e : b15 with
  | false => rfl
  | true => exact absurd (h.o15 e).2.2.2.1 (by rw [hb]; simp)
theorem not10 (h : QuoI gz gx gy xa xb ya yb PP QQ w0 W b1 b6 b7 b8 b10 b14 b15 b16 gA gB v8 v13 v14 v15 v17 v21 v22 v6) (hb : b10 = false) : b15 = false := by
  cases e : b15 with
  | false => rfl
  | true => exact absurd (h.o15 e).2.2.2.2.1 (by rw [hb]; simp)
theorem not14 (h : QuoI gz gx gy xa xb ya yb PP QQ w0 W b1 b6 b7 b8 b10 b14 b15 b16 gA gB v8 v13 v14 v15 v17 v21 v22 v6) (hb : b14 = false) : b15 = false := by
  cases e : b15 with
  | false => rfl
  | true => exact absurd (h.o15 e).2.2.2.2.2 (by rw [hb]; simp)
theorem new1 (h : QuoI gz gx gy xa xb ya yb PP QQ w0 W b1 b6 b7 b8 b10 b14 b15 b16 gA gB v8 v13 v14 v15 v17 v21 v22 v6) (hb : b1 = false) : QuoI gz gx gy xa xb ya yb PP QQ w0 (W.alloc (.cells #[.bool false, .slice none 0 0] 68)) true b6 b7 b8 b10 b14 b15 b16 W.heap.size gB (ptr W.heap.size 0) v13 v14 v15 v17 v21 v22 v6 :=
  have hn := h.not1 hb
  { below := fun _ => (h.below hn).alloc (h.below hn).size _, boxA := fun _ => Box.fresh (h.below hn).size h.oA hb, boxB := fun _ => (h.boxB hn).kept (zvB W), dAB := fun _ e => fun x => absurd ((h.boxB hn).lt e) (by omega), pD1 := h.pD1, pD2 := h.pD2, pA := fun e => absurd (h.oA e) (by rw [hb]; simp), pB := h.pB, oA := fun _ => rfl, oB := h.oB, oD1 := h.oD1, oD2 := h.oD2, o15 := fun e => Bool.noConfusion (hn.symm.trans e), fin := fun e => Bool.noConfusion (hn.symm.trans e), p6 := h.p6, o16 := h.o16 }
theorem new8 (h : QuoI gz gx gy xa xb ya yb PP QQ w0 W b1 b6 b7 b8 b10 b14 b15 b16 gA gB v8 v13 v14 v15 v17 v21 v22 v6) (hb : b8 = false) : QuoI gz gx gy xa xb ya yb PP QQ w0 (W.alloc (.cells #[.bool false, .slice none 0 0] 68)) b1 b6 b7 true b10 b14 b15 b16 gA W.heap.size v8 v13 v14 (ptr W.heap.size 0) v17 v21 v22 v6 :=
  have hn := h.not8 hb
  { below := fun _ => (h.below hn).alloc (h.below hn).size _, boxA := fun _ => (h.boxA hn).kept (zvB W), boxB := fun _ => Box.fresh (h.below hn).size h.oB hb, dAB := fun e _ => fun x => absurd ((h.boxA hn).lt e) (by omega), pD1 := h.pD1, pD2 := h.pD2, pA := h.pA, pB := fun e => absurd (h.oB e) (by rw [hb]; simp), oA := h.oA, oB := fun _ => rfl, oD1 := h.oD1, oD2 := h.oD2, o15 := fun e => Bool.noConfusion (hn.symm.trans e), fin := fun e => Bool.noConfusion (hn.symm.trans e), p6 := h.p6, o16 := h.o16 }
theorem den10 (h : QuoI gz gx gy xa xb ya yb PP QQ w0 W b1 b6 b7 b8 b10 b14 b15 b16 gA gB v8 v13 v14 v15 v17 v21 v22 v6) (hb : b10 = false) : QuoI gz gx gy xa xb ya yb PP QQ w0 W b1 b6 b7 b8 true b14 b15 b16 gA gB v8 v13 v14 v15 (ptr gx 2) v21 v22 v6 :=
  have hn := h.not10 hb
  { below := h.below, boxA := h.boxA, boxB := h.boxB, dAB := h.dAB, pD1 := fun _ => rfl, pD2 := h.pD2, pA := h.pA, pB := h.pB, oA := h.oA, oB := h.oB, oD1 := fun _ => rfl, oD2 := h.oD2, o15 := fun e => Bool.noConfusion (hn.symm.trans e), fin := fun e => Bool.noConfusion (hn.symm.trans e), p6 := h.p6, o16 := h.o16 }
theorem den6 (h : QuoI gz gx gy xa xb ya yb PP QQ w0 W b1 b6 b7 b8 b10 b14 b15 b16 gA gB v8 v13 v14 v15 v17 v21 v22 v6) (hb : b6 = false) : QuoI gz gx gy xa xb ya yb PP QQ w0 W b1 true b7 b8 b10 b14 b15 b16 gA gB v8 (ptr gy 2) v14 v15 v17 v21 v22 v6 :=
  have hn := h.not6 hb
  { below := h.below, boxA := h.boxA, boxB := h.boxB, dAB := h.dAB, pD1 := h.pD1, pD2 := fun _ => rfl, pA := h.pA, pB := h.pB, oA := h.oA, oB := h.oB, oD1 := h.oD1, oD2 := fun _ => rfl, o15 := fun e => Bool.noConfusion (hn.symm.trans e), fin := fun e => Bool.noConfusion (hn.symm.trans e), p6 := h.p6, o16 := h.o16 }
theorem set16 (h : QuoI gz gx gy xa xb ya yb PP QQ w0 W b1 b6 b7 b8 b10 b14 b15 b16 gA gB v8 v13 v14 v15 v17 v21 v22 v6) (e : b15 = true) : QuoI gz gx gy xa xb ya yb PP QQ w0 W b1 b6 b7 b8 b10 b14 b15 true gA gB v8 v13 v14 v15 v17 v21 v22 v22 := { below := h.below, boxA := h.boxA, boxB := h.boxB, dAB := h.dAB, pD1 := h.pD1, pD2 := h.pD2, pA := h.pA, pB := h.pB, oA := h.oA, oB := h.oB, oD1 := h.oD1, oD2 := h.oD2, o15 := h.o15, fin := h.fin, p6 := fun _ => (h.fin e).1, o16 := fun _ => e }
theorem call7 (h : QuoI gz gx gy xa xb ya yb PP QQ w0 W b1 b6 b7 b8 b10 b14 b15 b16 gA gB v8 v13 v14 v15 v17 v21 v22 v6) (HX : RatAt w0 gx xa xb) (HY : RatAt w0 gy ya yb) (B : BdQuo xa xb ya yb) (hb : b7 = false) (e1 : b1 = true) (e6 : b6 = true) :
    v8 = ptr gA 0 ∧ (True) ∧ (v13 = ptr gy 2) ∧ Calls Tryd.prog 67 #[.pointer (some ⟨gA, 0, none⟩), .pointer (some ⟨gx, 0, none⟩), .pointer (some ⟨gy, 2, none⟩)] W fun e W2 => e = .returned (.pointer (some ⟨gA, 0, none⟩)) ∧ QuoI gz gx gy xa xb ya yb PP QQ w0 W2 b1 b6 true b8 b10 b14 b15 b16 gA gB v8 v13 (ptr gA 0) v15 v17 v21 v22 v6 := by
  have hn := h.not7 hb
  obtain ⟨q1, q2, ⟨cs, hB, hi⟩, _⟩ := h.boxA hn e1
  have hgx := HX.num.lt
  have hgy := HY.num.lt
  refine ⟨q1, trivial, h.pD2 e6, (imul_z gA cs _ gx 0 gy 2 xa yb W ((HX.kept (h.below hn)).num) ((HY.kept (h.below hn)).den) hB hi (by omega) (by omega) B.x1 B.x2 (by have := B.y3; omega) B.y4).mono ?_⟩
  rintro e W2 ⟨rfl, hO⟩
  exact ⟨rfl, { below := fun _ => hO.below (h.below hn) q2, boxA := fun _ _ => ⟨q1, q2, (hO.int hi).2, fun _ => (hO.int hi).1⟩, boxB := fun _ => (h.boxB hn).tch hB hi.noW hO.1 (fun e => (h.dAB e1 e).symm), dAB := h.dAB, pD1 := h.pD1, pD2 := h.pD2, pA := fun _ => rfl, pB := h.pB, oA := fun _ => e1, oB := h.oB, oD1 := h.oD1, oD2 := fun _ => e6, o15 := fun e => Bool.noConfusion (hn.symm.trans e), fin := fun e => Bool.noConfusion (hn.symm.trans e), p6 := h.p6, o16 := h.o16 }⟩
theorem call14 (h : QuoI gz gx gy xa xb ya yb PP QQ w0 W b1 b6 b7 b8 b10 b14 b15 b16 gA gB v8 v13 v14 v15 v17 v21 v22 v6) (HX : RatAt w0 gx xa xb) (HY : RatAt w0 gy ya yb) (B : BdQuo xa xb ya yb) (hb : b14 = false) (e8 : b8 = true) (e10 : b10 = true) :
    v15 = ptr gB 0 ∧ (v17 = ptr gx 2) ∧ (True) ∧ Calls Tryd.prog 67 #[.pointer (some ⟨gB, 0, none⟩), .pointer (some ⟨gx, 2, none⟩), .pointer (some ⟨gy, 0, none⟩)] W fun e W2 => e = .returned (.pointer (some ⟨gB, 0, none⟩)) ∧ QuoI gz gx gy xa xb ya yb PP QQ w0 W2 b1 b6 b7 b8 b10 true b15 b16 gA gB v8 v13 v14 v15 v17 (ptr gB 0) v22 v6 := by
  have hn := h.not14 hb
  obtain ⟨q1, q2, ⟨cs, hB, hi⟩, _⟩ := h.boxB hn e8
  have hgx := HX.num.lt
  have hgy := HY.num.lt
  refine ⟨q1, h.pD1 e10, trivial, (imul_z gB cs _ gx 2 gy 0 xb ya W ((HX.kept (h.below hn)).den) ((HY.kept (h.below hn)).num) hB hi (by omega) (by omega) (by have := B.x3; omega) B.x4 B.y1 B.y2).mono ?_⟩
  rintro e W2 ⟨rfl, hO⟩
  exact ⟨rfl, { below := fun _ => hO.below (h.below hn) q2, boxA := fun _ => (h.boxA hn).tch hB hi.noW hO.1 (fun e => h.dAB e e8), boxB := fun _ _ => ⟨q1, q2, (hO.int hi).2, fun _ => (hO.int hi).1⟩, dAB := h.dAB, pD1 := h.pD1, pD2 := h.pD2, pA := h.pA, pB := fun _ => rfl, oA := h.oA, oB := fun _ => e8, oD1 := fun _ => e10, oD2 := h.oD2, o15 := fun e => Bool.noConfusion (hn.symm.trans e), fin := fun e => Bool.noConfusion (hn.symm.trans e), p6 := h.p6, o16 := h.o16 }⟩
theorem call15 (h : QuoI gz gx gy xa xb ya yb PP QQ w0 W b1 b6 b7 b8 b10 b14 b15 b16 gA gB v8 v13 v14 v15 v17 v21 v22 v6) (HS : (∀ W gA gB, Below w0.heap.size w0 W → ZAt W gA 0 (xa * yb) → ZAt W gB 0 (xb * ya) → Calls Tryd.prog 65 #[.pointer (some ⟨gz, 0, none⟩), .pointer (some ⟨gA, 0, none⟩), .pointer (some ⟨gB, 0, none⟩)] W fun e w' => e = .returned (.pointer (some ⟨gz, 0, none⟩)) ∧ RatAt w' gz PP QQ ∧ Tch [gz] W w')) (hb : b15 = false) (e7 : b7 = true) (e14 : b14 = true) (eD1 : b10 = true) (eD2 : b6 = true) :
    v14 = ptr gA 0 ∧ v21 = ptr gB 0 ∧ Calls Tryd.prog 65 #[.pointer (some ⟨gz, 0, none⟩), .pointer (some ⟨gA, 0, none⟩), .pointer (some ⟨gB, 0, none⟩)] W fun e W2 => e = .returned (.pointer (some ⟨gz, 0, none⟩)) ∧ QuoI gz gx gy xa xb ya yb PP QQ w0 W2 b1 b6 b7 b8 b10 b14 true b16 gA gB v8 v13 v14 v15 v17 v21 (ptr gz 0) v6 := by
  obtain ⟨_, _, _, zA⟩ := h.boxA hb (h.oA e7)
  obtain ⟨_, _, _, zB⟩ := h.boxB hb (h.oB e14)
  refine ⟨h.pA e7, h.pB e14, (HS W gA gB (h.below hb) (zA e7) (zB e14)).mono ?_⟩
  rintro e W2 ⟨rfl, hR, ht⟩
  exact ⟨rfl, { below := fun e => Bool.noConfusion e, boxA := fun e => Bool.noConfusion e, boxB := fun e => Bool.noConfusion e, dAB := h.dAB, pD1 := h.pD1, pD2 := h.pD2, pA := h.pA, pB := h.pB, oA := h.oA, oB := h.oB, oD1 := h.oD1, oD2 := h.oD2, o15 := fun _ => ⟨h.oA e7, eD2, e7, h.oB e14, eD1, e14⟩, fin := fun _ => ⟨rfl, hR, (Tch.of (h.below hb)).trans ht⟩, p6 := h.p6, o16 := fun _ => rfl }⟩
end QuoI
set_option maxHeartbeats 16000000 in
set_option maxRecDepth 100000 in
theorem rquo_z (gz gx gy : Nat) (xa xb ya yb PP QQ : Int) (w0 : World) (hx : RatAt w0 gx xa xb) (hy : RatAt w0 gy ya yb) (hbd : BdQuo xa xb ya yb) (hS : (∀ W gA gB, Below w0.heap.size w0 W → ZAt W gA 0 (xa * yb) → ZAt W gB 0 (xb * ya) → Calls Tryd.prog 65 #[.pointer (some ⟨gz, 0, none⟩), .pointer (some ⟨gA, 0, none⟩), .pointer (some ⟨gB, 0, none⟩)] W fun e w' => e = .returned (.pointer (some ⟨gz, 0, none⟩)) ∧ RatAt w' gz PP QQ ∧ Tch [gz] W w')) :
    Calls Tryd.prog 48 #[.pointer (some ⟨gz, 0, none⟩), .pointer (some ⟨gx, 0, none⟩), .pointer (some ⟨gy, 0, none⟩)] w0 fun e w' => e = .returned (.pointer (some ⟨gz, 0, none⟩)) ∧ RatAt w' gz PP QQ ∧ Tch [gz] w0 w' := by
  have HX := Hid.mk hx
  have HY := Hid.mk hy
  have HBD := Hid.mk hbd
  have HS := Hid.mk hS
  clear hx hy hbd hS
  go_enter Tryd.func48, Tryd.ntmps48
  go_wp2_with fail
  refine wp_region_any (by kernel_rfl) ?_
  refine wpAny_take (i := 0) (v := .pointer (some ⟨gz, 0, none⟩)) rfl (by kernel_rfl) (by kernel_rfl) (by kernel_rfl) (fun _ _ _ h => h) (Or.inl ⟨by rfl, fun _ => by rfl⟩) ?_
  simp only [List.getElem_toArray, List.getElem_cons_zero, Act.put, List.setIfInBounds_toArray, List.set_cons_zero, List.set_cons_succ]
  refine wpAny_take (i := 2) (v := .pointer (some ⟨gx, 0, none⟩)) rfl (by kernel_rfl) (by kernel_rfl) (by kernel_rfl) (fun _ _ _ h => h) (Or.inl ⟨by rfl, fun _ => by rfl⟩) ?_
  simp only [List.getElem_toArray, List.getElem_cons_zero, List.getElem_cons_succ, Act.put, List.setIfInBounds_toArray, List.set_cons_zero, List.set_cons_succ]
  refine wpAny_take (i := 3) (v := .pointer (some ⟨gx, 0, none⟩)) rfl (by kernel_rfl) (by kernel_rfl) (by kernel_rfl) (fun _ _ _ h => h) (Or.inl ⟨by rfl, fun _ => by rfl⟩) ?_
  simp only [List.getElem_toArray, List.getElem_cons_zero, List.getElem_cons_succ, Act.put, List.setIfInBounds_toArray, List.set_cons_zero, List.set_cons_succ]
  refine wpAny_take (i := 4) (v := .pointer (some ⟨gx, 0, none⟩)) rfl (by kernel_rfl) (by kernel_rfl) (by kernel_rfl) (fun _ _ _ h => h) (Or.inl ⟨by rfl, fun _ => by rfl⟩) ?_
  simp only [List.getElem_toArray, List.getElem_cons_zero, List.getElem_cons_succ, Act.put, List.setIfInBounds_toArray, List.set_cons_zero, List.set_cons_succ]
  refine wpAny_take (i := 5) (v := .pointer (some ⟨gy, 0, none⟩)) rfl (by kernel_rfl) (by kernel_rfl) (by kernel_rfl) (fun _ _ _ h => h) (Or.inl ⟨by rfl, fun _ => by rfl⟩) ?_
  simp only [List.getElem_toArray, List.getElem_cons_zero, List.getElem_cons_succ, Act.put, List.setIfInBounds_toArray, List.set_cons_zero, List.set_cons_succ]
  refine wpAny_take (i := 9) (v := .pointer (some ⟨gx, 0, none⟩)) rfl (by kernel_rfl) (by kernel_rfl) (by kernel_rfl) (fun _ _ _ h => h) (Or.inl ⟨by rfl, fun _ => by rfl⟩) ?_
  simp only [List.getElem_toArray, List.getElem_cons_zero, List.getElem_cons_succ, Act.put, List.setIfInBounds_toArray, List.set_cons_zero, List.set_cons_succ]
  refine wpAny_take (i := 11) (v := .pointer (some ⟨gy, 0, none⟩)) rfl (by kernel_rfl) (by kernel_rfl) (by kernel_rfl) (fun _ _ _ h => h) (Or.inl ⟨by rfl, fun _ => by rfl⟩) ?_
  simp only [List.getElem_toArray, List.getElem_cons_zero, List.getElem_cons_succ, Act.put, List.setIfInBounds_toArray, List.set_cons_zero, List.set_cons_succ]
  refine wpAny_take (i := 12) (v := .pointer (some ⟨gy, 0, none⟩)) rfl (by kernel_rfl) (by kernel_rfl) (by kernel_rfl) (fun _ _ _ h => h) (Or.inl ⟨by rfl, fun _ => by rfl⟩) ?_
  simp only [List.getElem_toArray, List.getElem_cons_zero, List.getElem_cons_succ, Act.put, List.setIfInBounds_toArray, List.set_cons_zero, List.set_cons_succ]
  refine wpAny_take (i := 13) (v := .pointer (some ⟨gy, 0, none⟩)) rfl (by kernel_rfl) (by kernel_rfl) (by kernel_rfl) (fun _ _ _ h => h) (Or.inl ⟨by rfl, fun _ => by rfl⟩) ?_
  simp only [List.getElem_toArray, List.getElem_cons_zero, List.getElem_cons_succ, Act.put, List.setIfInBounds_toArray, List.set_cons_zero, List.set_cons_succ]
  refine Oi.wpAny_start (fun l a W => ∃ b1 b6 b7 b8 b10 b14 b15 b16 gA gB v8 v13 v14 v15 v17 v21 v22 v6, l = #[true, b1, true, true, true, true, b6, b7, b8, true, b10, true, true, true, b14, b15, b16] ∧ a = ⟨#[.pointer (some ⟨gz, 0, none⟩), .pointer (some ⟨gx, 0, none⟩), .pointer (some ⟨gy, 0, none⟩), undef, undef, undef, v6, .pointer (some ⟨gz, 0, none⟩), v8, .pointer (some ⟨gx, 0, none⟩), .pointer (some ⟨gx, 0, none⟩), .pointer (some ⟨gx, 0, none⟩), .pointer (some ⟨gy, 0, none⟩), v13, v14, v15, .pointer (some ⟨gx, 0, none⟩), v17, .pointer (some ⟨gy, 0, none⟩), .pointer (some ⟨gy, 0, none⟩), .pointer (some ⟨gy, 0, none⟩), v21, v22], []⟩ ∧ QuoI gz gx gy xa xb ya yb PP QQ w0 W b1 b6 b7 b8 b10 b14 b15 b16 gA gB v8 v13 v14 v15 v17 v21 v22 v6) #[true, false, true, true, true, true, false, false, false, true, false, true, true, true, false, false, false] (by kernel_rfl) (by kernel_rfl) ⟨false, false, false, false, false, false, false, false, 0, 0, undef, undef, undef, undef, undef, undef, undef, .pointer none, rfl, rfl, ?_⟩ ?_ ?_
  · exact { below := fun _ => ⟨rfl, rfl, rfl, Nat.le_refl _, fun _ _ => rfl⟩, boxA := fun _ e => Bool.noConfusion e, boxB := fun _ e => Bool.noConfusion e, dAB := fun e => Bool.noConfusion e, pD1 := fun e => Bool.noConfusion e, pD2 := fun e => Bool.noConfusion e, pA := fun e => Bool.noConfusion e, pB := fun e => Bool.noConfusion e, oA := fun e => Bool.noConfusion e, oB := fun e => Bool.noConfusion e, oD1 := fun e => Bool.noConfusion e, oD2 := fun e => Bool.noConfusion e, o15 := fun e => Bool.noConfusion e, fin := fun e => Bool.noConfusion e, p6 := fun e => Bool.noConfusion e, o16 := fun e => Bool.noConfusion e }
  rotate_left
  · rintro l a W i o ⟨b1, b6, b7, b8, b10, b14, b15, b16, gA, gB, v8, v13, v14, v15, v17, v21, v22, v6, rfl, rfl, hI⟩ h0 ho hall K hK
    have hi : i < 17 := (Array.getElem?_eq_some_iff.1 ho).1
    have hii : i = 0 ∨ i = 1 ∨ i = 2 ∨ i = 3 ∨ i = 4 ∨ i = 5 ∨ i = 6 ∨ i = 7 ∨ i = 8 ∨ i = 9 ∨ i = 10 ∨ i = 11 ∨ i = 12 ∨ i = 13 ∨ i = 14 ∨ i = 15 ∨ i = 16 := by omega
    clear hi
    rcases hii with rfl | rfl | rfl | rfl | rfl | rfl | rfl | rfl | rfl | rfl | rfl | rfl | rfl | rfl | rfl | rfl | rfl
    · exact Bool.noConfusion h0
    · simp only [List.getElem?_toArray, List.getElem?_cons_zero, List.getElem?_cons_succ, Option.some.injEq] at ho
      subst ho
      have HN := Hid.mk (hI.new1 h0)
      clear hall h0
      go_simp
      exact hK.out _ _ ⟨_, _, _, _, _, _, _, _, _, _, _, _, _, _, _, _, _, _, rfl, rfl, HN.out⟩
    · exact Bool.noConfusion h0
    · exact Bool.noConfusion h0
    · exact Bool.noConfusion h0
    · exact Bool.noConfusion h0
    · simp only [List.getElem?_toArray, List.getElem?_cons_zero, List.getElem?_cons_succ, Option.some.injEq] at ho
      subst ho
      have HN := Hid.mk (hI.den6 h0)
      have HC := Hid.mk (den_z gy ya yb W (HY.out.kept (hI.below (hI.not6 h0))) (by have := HBD.out.y3; omega))
      clear hall h0 hI
      go_simp
      go_wp2_with fail
      with_reducible refine HC.out.mono ?_
      rintro e W2 ⟨rfl, hw2⟩
      obtain rfl := hw2.symm
      go_wp2_with fail
      exact hK.out _ _ ⟨_, _, _, _, _, _, _, _, _, _, _, _, _, _, _, _, _, _, rfl, rfl, HN.out⟩
    · simp only [List.getElem?_toArray, List.getElem?_cons_zero, List.getElem?_cons_succ, Option.some.injEq] at ho
      subst ho
      have e1 : b1 = true := hall ⟨1, .data⟩ (by simp) rfl
      have e6 : b6 = true := hall ⟨6, .data⟩ (by simp) rfl
      obtain ⟨hv1, hv2, hv3, hC⟩ := hI.call7 HX.out HY.out HBD.out h0 e1 e6
      unfold ptr at hv1 hv3
      have HC := Hid.mk hC
      subst hv1 hv3
      clear hC hall h0 hI
      go_simp
      go_wp2_with fail
      with_reducible refine HC.out.mono ?_
      rintro e W2 ⟨rfl, hI2⟩
      have HI2 := Hid.mk hI2
      clear hI2
      go_wp2_with fail
      exact hK.out _ _ ⟨_, _, _, _, _, _, _, _, _, _, _, _, _, _, _, _, _, _, rfl, rfl, HI2.out⟩
    · simp only [List.getElem?_toArray, List.getElem?_cons_zero, List.getElem?_cons_succ, Option.some.injEq] at ho
      subst ho
      have HN := Hid.mk (hI.new8 h0)
      clear hall h0
      go_simp
      exact hK.out _ _ ⟨_, _, _, _, _, _, _, _, _, _, _, _, _, _, _, _, _, _, rfl, rfl, HN.out⟩
    · exact Bool.noConfusion h0
    · simp only [List.getElem?_toArray, List.getElem?_cons_zero, List.getElem?_cons_succ, Option.some.injEq] at ho
      subst ho
      have HN := Hid.mk (hI.den10 h0)
      have HC := Hid.mk (den_z gx xa xb W (HX.out.kept (hI.below (hI.not10 h0))) (by have := HBD.out.x3; omega))
      clear hall h0 hI
      go_simp
      go_wp2_with fail
      with_reducible refine HC.out.mono ?_
      rintro e W2 ⟨rfl, hw2⟩
      obtain rfl := hw2.symm
      go_wp2_with fail
      exact hK.out _ _ ⟨_, _, _, _, _, _, _, _, _, _, _, _, _, _, _, _, _, _, rfl, rfl, HN.out⟩
    · exact Bool.noConfusion h0
    · exact Bool.noConfusion h0
    · exact Bool.noConfusion h0
    · simp only [List.getElem?_toArray, List.getElem?_cons_zero, List.getElem?_cons_succ, Option.some.injEq] at ho
      subst ho
      have e8 : b8 = true := hall ⟨8, .data⟩ (by simp) rfl
      have e10 : b10 = true := hall ⟨10, .data⟩ (by simp) rfl
      obtain ⟨hv1, hv2, hv3, hC⟩ := hI.call14 HX.out HY.out HBD.out h0 e8 e10
      unfold ptr at hv1 hv2
      have HC := Hid.mk hC
      subst hv1 hv2
      clear hC hall h0 hI
      go_simp
      go_wp2_with fail
      with_reducible refine HC.out.mono ?_
      rintro e W2 ⟨rfl, hI2⟩
      have HI2 := Hid.mk hI2
      clear hI2
      go_wp2_with fail
      exact hK.out _ _ ⟨_, _, _, _, _, _, _, _, _, _, _, _, _, _, _, _, _, _, rfl, rfl, HI2.out⟩
    · simp only [List.getElem?_toArray, List.getElem?_cons_zero, List.getElem?_cons_succ, Option.some.injEq] at ho
      subst ho
      have e7 : b7 = true := hall ⟨7, .data⟩ (by simp) rfl
      have e14 : b14 = true := hall ⟨14, .data⟩ (by simp) rfl
      obtain ⟨hv1, hv2, hC⟩ := hI.call15 HS.out h0 e7 e14 (hI.oD1 e14) (hI.oD2 e7)
      unfold ptr at hv1 hv2
      have HC := Hid.mk hC
      subst hv1 hv2
      clear hC hall h0 hI
      go_simp
      go_wp2_with fail
      with_reducible refine HC.out.mono ?_
      rintro e W2 ⟨rfl, hI2⟩
      have HI2 := Hid.mk hI2
      clear hI2
      go_wp2_with fail
      exact hK.out _ _ ⟨_, _, _, _, _, _, _, _, _, _, _, _, _, _, _, _, _, _, rfl, rfl, HI2.out⟩
    · simp only [List.getElem?_toArray, List.getElem?_cons_zero, List.getElem?_cons_succ, Option.some.injEq] at ho
      subst ho
      have e15 : b15 = true := hall ⟨15, .data⟩ (by simp) rfl
      have HN := Hid.mk (hI.set16 e15)
      clear hall h0 hI
      go_simp
      exact hK.out _ _ ⟨_, _, _, _, _, _, _, _, _, _, _, _, _, _, _, _, _, _, rfl, rfl, HN.out⟩
  rintro l a W ⟨b1, b6, b7, b8, b10, b14, b15, b16, gA, gB, v8, v13, v14, v15, v17, v21, v22, v6, rfl, rfl, hI⟩ hr
  cases b1 with
  | false => exact (Oi.ready_nil (i := 1) hr rfl rfl (by intro e he _; simp at he; try (first | (rcases he with rfl | rfl | rfl | rfl | rfl | rfl | rfl | rfl | rfl | rfl | rfl | rfl | rfl | rfl | rfl | rfl | rfl | rfl <;> rfl) | (rcases he with rfl | rfl | rfl | rfl | rfl | rfl <;> rfl) | (rcases he with rfl | rfl | rfl | rfl | rfl <;> rfl) | (rcases he with rfl | rfl | rfl | rfl <;> rfl) | (rcases he with rfl | rfl | rfl <;> rfl) | (rcases he with rfl | rfl <;> rfl) | (rcases he with rfl; rfl)))).elim
  | true =>
  cases b6 with
  | false => exact (Oi.ready_nil (i := 6) hr rfl rfl (by intro e he _; simp at he; try (first | (rcases he with rfl | rfl | rfl | rfl | rfl | rfl | rfl | rfl | rfl | rfl | rfl | rfl | rfl | rfl | rfl | rfl | rfl | rfl <;> rfl) | (rcases he with rfl | rfl | rfl | rfl | rfl | rfl <;> rfl) | (rcases he with rfl | rfl | rfl | rfl | rfl <;> rfl) | (rcases he with rfl | rfl | rfl | rfl <;> rfl) | (rcases he with rfl | rfl | rfl <;> rfl) | (rcases he with rfl | rfl <;> rfl) | (rcases he with rfl; rfl)))).elim
  | true =>
  cases b7 with
  | false => exact (Oi.ready_nil (i := 7) hr rfl rfl (by intro e he _; simp at he; try (first | (rcases he with rfl | rfl | rfl | rfl | rfl | rfl | rfl | rfl | rfl | rfl | rfl | rfl | rfl | rfl | rfl | rfl | rfl | rfl <;> rfl) | (rcases he with rfl | rfl | rfl | rfl | rfl | rfl <;> rfl) | (rcases he with rfl | rfl | rfl | rfl | rfl <;> rfl) | (rcases he with rfl | rfl | rfl | rfl <;> rfl) | (rcases he with rfl | rfl | rfl <;> rfl) | (rcases he with rfl | rfl <;> rfl) | (rcases he with rfl; rfl)))).elim
  | true =>
  cases b8 with
  | false => exact (Oi.ready_nil (i := 8) hr rfl rfl (by intro e he _; simp at he; try (first | (rcases he with rfl | rfl | rfl | rfl | rfl | rfl | rfl | rfl | rfl | rfl | rfl | rfl | rfl | rfl | rfl | rfl | rfl | rfl <;> rfl) | (rcases he with rfl | rfl | rfl | rfl | rfl | rfl <;> rfl) | (rcases he with rfl | rfl | rfl | rfl | rfl <;> rfl) | (rcases he with rfl | rfl | rfl | rfl <;> rfl) | (rcases he with rfl | rfl | rfl <;> rfl) | (rcases he with rfl | rfl <;> rfl) | (rcases he with rfl; rfl)))).elim
  | true =>
  cases b10 with
  | false => exact (Oi.ready_nil (i := 10) hr rfl rfl (by intro e he _; simp at he; try (first | (rcases he with rfl | rfl | rfl | rfl | rfl | rfl | rfl | rfl | rfl | rfl | rfl | rfl | rfl | rfl | rfl | rfl | rfl | rfl <;> rfl) | (rcases he with rfl | rfl | rfl | rfl | rfl | rfl <;> rfl) | (rcases he with rfl | rfl | rfl | rfl | rfl <;> rfl) | (rcases he with rfl | rfl | rfl | rfl <;> rfl) | (rcases he with rfl | rfl | rfl <;> rfl) | (rcases he with rfl | rfl <;> rfl) | (rcases he with rfl; rfl)))).elim
  | true =>
  cases b14 with
  | false => exact (Oi.ready_nil (i := 14) hr rfl rfl (by intro e he _; simp at he; try (first | (rcases he with rfl | rfl | rfl | rfl | rfl | rfl | rfl | rfl | rfl | rfl | rfl | rfl | rfl | rfl | rfl | rfl | rfl | rfl <;> rfl) | (rcases he with rfl | rfl | rfl | rfl | rfl | rfl <;> rfl) | (rcases he with rfl | rfl | rfl | rfl | rfl <;> rfl) | (rcases he with rfl | rfl | rfl | rfl <;> rfl) | (rcases he with rfl | rfl | rfl <;> rfl) | (rcases he with rfl | rfl <;> rfl) | (rcases he with rfl; rfl)))).elim
  | true =>
  cases b15 with
  | false => exact (Oi.ready_nil (i := 15) hr rfl rfl (by intro e he _; simp at he; try (first | (rcases he with rfl | rfl | rfl | rfl | rfl | rfl | rfl | rfl | rfl | rfl | rfl | rfl | rfl | rfl | rfl | rfl | rfl | rfl <;> rfl) | (rcases he with rfl | rfl | rfl | rfl | rfl | rfl <;> rfl) | (rcases he with rfl | rfl | rfl | rfl | rfl <;> rfl) | (rcases he with rfl | rfl | rfl | rfl <;> rfl) | (rcases he with rfl | rfl | rfl <;> rfl) | (rcases he with rfl | rfl <;> rfl) | (rcases he with rfl; rfl)))).elim
  | true =>
  cases b16 with
  | false => exact (Oi.ready_nil (i := 16) hr rfl rfl (by intro e he _; simp at he; try (first | (rcases he with rfl | rfl | rfl | rfl | rfl | rfl | rfl | rfl | rfl | rfl | rfl | rfl | rfl | rfl | rfl | rfl | rfl | rfl <;> rfl) | (rcases he with rfl | rfl | rfl | rfl | rfl | rfl <;> rfl) | (rcases he with rfl | rfl | rfl | rfl | rfl <;> rfl) | (rcases he with rfl | rfl | rfl | rfl <;> rfl) | (rcases he with rfl | rfl | rfl <;> rfl) | (rcases he with rfl | rfl <;> rfl) | (rcases he with rfl; rfl)))).elim
  | true =>
  clear hr
  have hp6 := hI.p6 rfl
  unfold ptr at hp6
  subst hp6
  obtain ⟨-, hR, ht⟩ := hI.fin rfl
  have HR := Hid.mk hR
  have HT := Hid.mk ht
  clear hI hR ht
  go_wp2_with fail
  go_ret
  exact ⟨rfl, HR.out, HT.out⟩
end Ww
end Go.Proofs.YtgknolliicachaaDoor
