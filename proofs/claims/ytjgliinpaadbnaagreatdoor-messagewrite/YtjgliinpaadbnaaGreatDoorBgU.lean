/- omnibusbig's Mul, Quo, shifts, and the document's Unmean (joined). -/
import Derived.Test.YtjgliinpaadbnaaGreatDoorBgWB
import Derived.Test.YtjgliinpaadbnaaGreatDoorBgR
import Derived.Deep.RegionWith
import Derived.Laws.BitsAllLaws
import Derived.Test.YtjgliinpaadbnaaGreatDoorSgRaw
import Derived.Test.YtjgliinpaadbnaaGreatDoorSgRead
namespace Go.Proofs.YtjgliinpaadbnaaGreatDoor
open Go.ChangeShapes Go.WideShapes Go.ChangeAt Go.RowKit Go.Sort
namespace Ww
open Wm Sm
open Bw (Tch bl2 cell_kept)
open Oi (ptr Box)
structure BdSub (xa xb ya yb : Int) : Prop where
  x1 : -4611686018427387903 ≤ xa
  x2 : xa ≤ 4611686018427387903
  x3 : 0 < xb
  x4 : xb ≤ 4611686018427387903
  y1 : -4611686018427387903 ≤ ya
  y2 : ya ≤ 4611686018427387903
  y3 : 0 < yb
  y4 : yb ≤ 4611686018427387903
  p1 : -4611686018427387903 ≤ xa * yb
  p2 : xa * yb ≤ 4611686018427387903
  q1 : -4611686018427387903 ≤ ya * xb
  q2 : ya * xb ≤ 4611686018427387903
  r1 : -4611686018427387903 ≤ xa * yb + - (ya * xb)
  r2 : xa * yb + - (ya * xb) ≤ 4611686018427387903
  d1 : xb * yb ≤ 4611686018427387903
structure SubI (gx gy : Nat) (xa xb ya yb : Int) (w0 W : World) (b0 b1 b6 b7 b8 b13 b14 b15 b16 : Bool) (g8 g9 g16 : Nat) (v7 v8 v9 v14 v15 v16 v21 v22 v23 : Value) : Prop where
  below : Below w0.heap.size w0 W
  box8 : Box b0 b15 (xa * yb + - (ya * xb)) w0.heap.size W g8 v8
  box9 : Box b1 b7 (xa * yb) w0.heap.size W g9 v9
  box16 : Box b8 b14 (ya * xb) w0.heap.size W g16 v16
  d89 : b0 = true → b1 = true → g8 ≠ g9
  d816 : b0 = true → b8 = true → g8 ≠ g16
  d916 : b1 = true → b8 = true → g9 ≠ g16
  p14 : b6 = true → v14 = ptr gy 2
  p21 : b13 = true → v21 = ptr gx 2
  p15 : b7 = true → v15 = ptr g9 0
  p22 : b14 = true → v22 = ptr g16 0
  p23 : b15 = true → v23 = ptr g8 0
  p7 : b16 = true → v7 = ptr g8 0
  o7 : b7 = true → b1 = true
  o14 : b14 = true → b8 = true
  o15 : b15 = true → b0 = true
  o16 : b16 = true → b15 = true
namespace SubI
variable {gx gy : Nat} {xa xb ya yb : Int} {w0 W : World} {b0 b1 b6 b7 b8 b13 b14 b15 b16 : Bool} {g8 g9 g16 : Nat} {v7 v8 v9 v14 v15 v16 v21 v22 v23 : Value}
theorem new0 (h : SubI gx gy xa xb ya yb w0 W b0 b1 b6 b7 b8 b13 b14 b15 b16 g8 g9 g16 v7 v8 v9 v14 v15 v16 v21 v22 v23) (hb : b0 = false) : SubI gx gy xa xb ya yb w0 (W.alloc (.cells #[.bool false, .slice none 0 0] 85)) true b1 b6 b7 b8 b13 b14 b15 b16 W.heap.size g9 g16 v7 (ptr W.heap.size 0) v9 v14 v15 v16 v21 v22 v23 :=
  { below := h.below.alloc h.below.size _, box8 := Box.fresh h.below.size h.o15 hb, box9 := h.box9.kept (zvB W), box16 := h.box16.kept (zvB W), d89 := fun _ e => fun x => absurd (h.box9.lt e) (by omega), d816 := fun _ e => fun x => absurd (h.box16.lt e) (by omega), d916 := h.d916, p14 := h.p14, p21 := h.p21, p15 := h.p15, p22 := h.p22, p23 := fun e => absurd (h.o15 e) (by rw [hb]; simp), p7 := fun e => absurd (h.o15 (h.o16 e)) (by rw [hb]; simp), o7 := h.o7, o14 := h.o14, o15 := fun _ => rfl, o16 := h.o16 }
theorem new1 (h : SubI gx gy xa xb ya yb w0 W b0 b1 b6 b7 b8 b13 b14 b15 b16 g8 g9 g16 v7 v8 v9 v14 v15 v16 v21 v22 v23) (hb : b1 = false) : SubI gx gy xa xb ya yb w0 (W.alloc (.cells #[.bool false, .slice none 0 0] 85)) b0 true b6 b7 b8 b13 b14 b15 b16 g8 W.heap.size g16 v7 v8 (ptr W.heap.size 0) v14 v15 v16 v21 v22 v23 :=
  { below := h.below.alloc h.below.size _, box8 := h.box8.kept (zvB W), box9 := Box.fresh h.below.size h.o7 hb, box16 := h.box16.kept (zvB W), d89 := fun e _ => fun x => absurd (h.box8.lt e) (by omega), d816 := h.d816, d916 := fun _ e => fun x => absurd (h.box16.lt e) (by omega), p14 := h.p14, p21 := h.p21, p15 := fun e => absurd (h.o7 e) (by rw [hb]; simp), p22 := h.p22, p23 := h.p23, p7 := h.p7, o7 := fun _ => rfl, o14 := h.o14, o15 := h.o15, o16 := h.o16 }
theorem new8 (h : SubI gx gy xa xb ya yb w0 W b0 b1 b6 b7 b8 b13 b14 b15 b16 g8 g9 g16 v7 v8 v9 v14 v15 v16 v21 v22 v23) (hb : b8 = false) : SubI gx gy xa xb ya yb w0 (W.alloc (.cells #[.bool false, .slice none 0 0] 85)) b0 b1 b6 b7 true b13 b14 b15 b16 g8 g9 W.heap.size v7 v8 v9 v14 v15 (ptr W.heap.size 0) v21 v22 v23 :=
  { below := h.below.alloc h.below.size _, box8 := h.box8.kept (zvB W), box9 := h.box9.kept (zvB W), box16 := Box.fresh h.below.size h.o14 hb, d89 := h.d89, d816 := fun e _ => fun x => absurd (h.box8.lt e) (by omega), d916 := fun e _ => fun x => absurd (h.box9.lt e) (by omega), p14 := h.p14, p21 := h.p21, p15 := h.p15, p22 := fun e => absurd (h.o14 e) (by rw [hb]; simp), p23 := h.p23, p7 := h.p7, o7 := h.o7, o14 := fun _ => rfl, o15 := h.o15, o16 := h.o16 }
theorem den6 (h : SubI gx gy xa xb ya yb w0 W b0 b1 b6 b7 b8 b13 b14 b15 b16 g8 g9 g16 v7 v8 v9 v14 v15 v16 v21 v22 v23) : SubI gx gy xa xb ya yb w0 W b0 b1 true b7 b8 b13 b14 b15 b16 g8 g9 g16 v7 v8 v9 (ptr gy 2) v15 v16 v21 v22 v23 := { h with p14 := fun _ => rfl }
theorem den13 (h : SubI gx gy xa xb ya yb w0 W b0 b1 b6 b7 b8 b13 b14 b15 b16 g8 g9 g16 v7 v8 v9 v14 v15 v16 v21 v22 v23) (_ : b7 = true) : SubI gx gy xa xb ya yb w0 W b0 b1 b6 b7 b8 true b14 b15 b16 g8 g9 g16 v7 v8 v9 v14 v15 v16 (ptr gx 2) v22 v23 := { h with p21 := fun _ => rfl }
theorem set16 (h : SubI gx gy xa xb ya yb w0 W b0 b1 b6 b7 b8 b13 b14 b15 b16 g8 g9 g16 v7 v8 v9 v14 v15 v16 v21 v22 v23) (e : b15 = true) : SubI gx gy xa xb ya yb w0 W b0 b1 b6 b7 b8 b13 b14 b15 true g8 g9 g16 v23 v8 v9 v14 v15 v16 v21 v22 v23 := { h with p7 := fun _ => h.p23 e, o16 := fun _ => e }
theorem call7 (h : SubI gx gy xa xb ya yb w0 W b0 b1 b6 b7 b8 b13 b14 b15 b16 g8 g9 g16 v7 v8 v9 v14 v15 v16 v21 v22 v23) (HX : RatAt w0 gx xa xb) (HY : RatAt w0 gy ya yb) (B : BdSub xa xb ya yb) (_ : b7 = false) (e1 : b1 = true) (e6 : b6 = true) :
    v9 = ptr g9 0 ∧ (True) ∧ v14 = ptr gy 2 ∧ Calls Tryz.prog 94 #[.pointer (some ⟨g9, 0, none⟩), .pointer (some ⟨gx, 0, none⟩), .pointer (some ⟨gy, 2, none⟩)] W fun e W2 => e = .returned (.pointer (some ⟨g9, 0, none⟩)) ∧ SubI gx gy xa xb ya yb w0 W2 b0 b1 b6 true b8 b13 b14 b15 b16 g8 g9 g16 v7 v8 v9 v14 (ptr g9 0) v16 v21 v22 v23 := by
  obtain ⟨q1, q2, ⟨cs, hB, hi⟩, _⟩ := h.box9 e1
  have hgx := HX.num.lt
  have hgy := HY.num.lt
  refine ⟨q1, trivial, h.p14 e6, (imul_z g9 cs _ gx 0 gy 2 xa yb W (HX.kept h.below).num (HY.kept h.below).den hB hi (by omega) (by omega) B.x1 B.x2 (by have := B.y3; omega) B.y4).mono ?_⟩
  rintro e W2 ⟨rfl, hO⟩
  exact ⟨rfl, { below := hO.below h.below q2, box8 := h.box8.tch hB hi.noW hO.1 (fun e => h.d89 e e1), box9 := fun _ => ⟨q1, q2, (hO.int hi).2, fun _ => (hO.int hi).1⟩, box16 := h.box16.tch hB hi.noW hO.1 (fun e => (h.d916 e1 e).symm), d89 := h.d89, d816 := h.d816, d916 := h.d916, p14 := h.p14, p21 := h.p21, p15 := fun _ => rfl, p22 := h.p22, p23 := h.p23, p7 := h.p7, o14 := h.o14, o15 := h.o15, o16 := h.o16, o7 := fun _ => e1 }⟩
theorem call14 (h : SubI gx gy xa xb ya yb w0 W b0 b1 b6 b7 b8 b13 b14 b15 b16 g8 g9 g16 v7 v8 v9 v14 v15 v16 v21 v22 v23) (HX : RatAt w0 gx xa xb) (HY : RatAt w0 gy ya yb) (B : BdSub xa xb ya yb) (_ : b14 = false) (e8 : b8 = true) (e13 : b13 = true) :
    v16 = ptr g16 0 ∧ (True) ∧ v21 = ptr gx 2 ∧ Calls Tryz.prog 94 #[.pointer (some ⟨g16, 0, none⟩), .pointer (some ⟨gy, 0, none⟩), .pointer (some ⟨gx, 2, none⟩)] W fun e W2 => e = .returned (.pointer (some ⟨g16, 0, none⟩)) ∧ SubI gx gy xa xb ya yb w0 W2 b0 b1 b6 b7 b8 b13 true b15 b16 g8 g9 g16 v7 v8 v9 v14 v15 v16 v21 (ptr g16 0) v23 := by
  obtain ⟨q1, q2, ⟨cs, hB, hi⟩, _⟩ := h.box16 e8
  have hgx := HX.num.lt
  have hgy := HY.num.lt
  refine ⟨q1, trivial, h.p21 e13, (imul_z g16 cs _ gy 0 gx 2 ya xb W (HY.kept h.below).num (HX.kept h.below).den hB hi (by omega) (by omega) B.y1 B.y2 (by have := B.x3; omega) B.x4).mono ?_⟩
  rintro e W2 ⟨rfl, hO⟩
  exact ⟨rfl, { below := hO.below h.below q2, box8 := h.box8.tch hB hi.noW hO.1 (fun e => h.d816 e e8), box9 := h.box9.tch hB hi.noW hO.1 (fun e => h.d916 e e8), box16 := fun _ => ⟨q1, q2, (hO.int hi).2, fun _ => (hO.int hi).1⟩, d89 := h.d89, d816 := h.d816, d916 := h.d916, p14 := h.p14, p21 := h.p21, p15 := h.p15, p22 := fun _ => rfl, p23 := h.p23, p7 := h.p7, o7 := h.o7, o15 := h.o15, o16 := h.o16, o14 := fun _ => e8 }⟩
theorem call15 (h : SubI gx gy xa xb ya yb w0 W b0 b1 b6 b7 b8 b13 b14 b15 b16 g8 g9 g16 v7 v8 v9 v14 v15 v16 v21 v22 v23) (_ : RatAt w0 gx xa xb) (_ : RatAt w0 gy ya yb) (B : BdSub xa xb ya yb) (_ : b15 = false) (e0 : b0 = true) (e7 : b7 = true) (e14 : b14 = true) :
    v8 = ptr g8 0 ∧ (v15 = ptr g9 0) ∧ v22 = ptr g16 0 ∧ Calls Tryz.prog 93 #[.pointer (some ⟨g8, 0, none⟩), .pointer (some ⟨g9, 0, none⟩), .pointer (some ⟨g16, 0, none⟩)] W fun e W2 => e = .returned (.pointer (some ⟨g8, 0, none⟩)) ∧ SubI gx gy xa xb ya yb w0 W2 b0 b1 b6 b7 b8 b13 b14 true b16 g8 g9 g16 v7 v8 v9 v14 v15 v16 v21 v22 (ptr g8 0) := by
  obtain ⟨q1, q2, ⟨cs, hB, hi⟩, _⟩ := h.box8 e0
  obtain ⟨_, _, _, z9⟩ := h.box9 (h.o7 e7)
  obtain ⟨_, _, _, z16⟩ := h.box16 (h.o14 e14)
  replace z9 := z9 e7
  replace z16 := z16 e14
  refine ⟨q1, h.p15 e7, h.p22 e14, (isub_z g8 cs _ g9 0 g16 0 (xa * yb) (ya * xb) W z9 z16 hB hi (fun x => h.d89 e0 (h.o7 e7) x.symm) (fun x => h.d816 e0 (h.o14 e14) x.symm) B.p1 B.p2 B.q1 B.q2).mono ?_⟩
  rintro e W2 ⟨rfl, hO⟩
  exact ⟨rfl, { below := hO.below h.below q2, box8 := fun _ => ⟨q1, q2, (hO.int hi).2, fun _ => (hO.int hi).1⟩, box9 := h.box9.tch hB hi.noW hO.1 (fun e => (h.d89 e0 e).symm), box16 := h.box16.tch hB hi.noW hO.1 (fun e => (h.d816 e0 e).symm), d89 := h.d89, d816 := h.d816, d916 := h.d916, p14 := h.p14, p21 := h.p21, p15 := h.p15, p22 := h.p22, p23 := fun _ => rfl, p7 := h.p7, o7 := h.o7, o14 := h.o14, o16 := fun _ => rfl, o15 := fun _ => e0 }⟩
end SubI
set_option maxHeartbeats 16000000 in
set_option maxRecDepth 100000 in
theorem rsub_z (gz gx gy : Nat) (cs : List Value) (xa xb ya yb : Int) (w : World) (hB : BlkAt w gz cs 87) (hV : RatV cs) (hx : RatAt w gx xa xb) (hy : RatAt w gy ya yb) (hbd : BdSub xa xb ya yb) :
    Calls Tryz.prog 48 #[.pointer (some ⟨gz, 0, none⟩), .pointer (some ⟨gx, 0, none⟩), .pointer (some ⟨gy, 0, none⟩)] w fun e w' => e = .returned (.pointer (some ⟨gz, 0, none⟩)) ∧ RatAt w' gz (numL (xa * yb + - (ya * xb)) (xb * yb)) (denL (xa * yb + - (ya * xb)) (xb * yb)) ∧ Tch [gz] w w' := by
  have HX := Hid.mk hx
  have HY := Hid.mk hy
  have HBD := Hid.mk hbd
  have HXB := Hid.mk hbd.x3
  have HYB := Hid.mk hbd.y3
  have HB := Hid.mk hB
  have HV := Hid.mk hV
  clear hx hy hbd hB hV
  go_enter Tryz.func48, Tryz.ntmps48
  go_wp2_with fail
  refine wp_region_any (by kernel_rfl) ?_
  refine wpAny_take (i := 2) (v := .pointer (some ⟨gx, 0, none⟩)) rfl (by kernel_rfl) (by kernel_rfl) (by kernel_rfl) (fun _ _ _ h => h) (Or.inl ⟨by rfl, fun _ => by rfl⟩) ?_
  simp only [List.getElem_toArray, List.getElem_cons_zero, List.getElem_cons_succ, Act.put, List.setIfInBounds_toArray, List.set_cons_zero, List.set_cons_succ]
  refine wpAny_take (i := 3) (v := .pointer (some ⟨gx, 0, none⟩)) rfl (by kernel_rfl) (by kernel_rfl) (by kernel_rfl) (fun _ _ _ h => h) (Or.inl ⟨by rfl, fun _ => by rfl⟩) ?_
  simp only [List.getElem_toArray, List.getElem_cons_zero, List.getElem_cons_succ, Act.put, List.setIfInBounds_toArray, List.set_cons_zero, List.set_cons_succ]
  refine wpAny_take (i := 4) (v := .pointer (some ⟨gx, 0, none⟩)) rfl (by kernel_rfl) (by kernel_rfl) (by kernel_rfl) (fun _ _ _ h => h) (Or.inl ⟨by rfl, fun _ => by rfl⟩) ?_
  simp only [List.getElem_toArray, List.getElem_cons_zero, List.getElem_cons_succ, Act.put, List.setIfInBounds_toArray, List.set_cons_zero, List.set_cons_succ]
  refine wpAny_take (i := 5) (v := .pointer (some ⟨gy, 0, none⟩)) rfl (by kernel_rfl) (by kernel_rfl) (by kernel_rfl) (fun _ _ _ h => h) (Or.inl ⟨by rfl, fun _ => by rfl⟩) ?_
  simp only [List.getElem_toArray, List.getElem_cons_zero, List.getElem_cons_succ, Act.put, List.setIfInBounds_toArray, List.set_cons_zero, List.set_cons_succ]
  refine wpAny_take (i := 9) (v := .pointer (some ⟨gy, 0, none⟩)) rfl (by kernel_rfl) (by kernel_rfl) (by kernel_rfl) (fun _ _ _ h => h) (Or.inl ⟨by rfl, fun _ => by rfl⟩) ?_
  simp only [List.getElem_toArray, List.getElem_cons_zero, List.getElem_cons_succ, Act.put, List.setIfInBounds_toArray, List.set_cons_zero, List.set_cons_succ]
  refine wpAny_take (i := 10) (v := .pointer (some ⟨gy, 0, none⟩)) rfl (by kernel_rfl) (by kernel_rfl) (by kernel_rfl) (fun _ _ _ h => h) (Or.inl ⟨by rfl, fun _ => by rfl⟩) ?_
  simp only [List.getElem_toArray, List.getElem_cons_zero, List.getElem_cons_succ, Act.put, List.setIfInBounds_toArray, List.set_cons_zero, List.set_cons_succ]
  refine wpAny_take (i := 11) (v := .pointer (some ⟨gy, 0, none⟩)) rfl (by kernel_rfl) (by kernel_rfl) (by kernel_rfl) (fun _ _ _ h => h) (Or.inl ⟨by rfl, fun _ => by rfl⟩) ?_
  simp only [List.getElem_toArray, List.getElem_cons_zero, List.getElem_cons_succ, Act.put, List.setIfInBounds_toArray, List.set_cons_zero, List.set_cons_succ]
  refine wpAny_take (i := 12) (v := .pointer (some ⟨gx, 0, none⟩)) rfl (by kernel_rfl) (by kernel_rfl) (by kernel_rfl) (fun _ _ _ h => h) (Or.inl ⟨by rfl, fun _ => by rfl⟩) ?_
  simp only [List.getElem_toArray, List.getElem_cons_zero, List.getElem_cons_succ, Act.put, List.setIfInBounds_toArray, List.set_cons_zero, List.set_cons_succ]
  refine Oi.wpAny_start (fun l a W => ∃ b0 b1 b6 b7 b8 b13 b14 b15 b16 g8 g9 g16 v7 v8 v9 v14 v15 v16 v21 v22 v23, l = #[b0, b1, true, true, true, true, b6, b7, b8, true, true, true, true, b13, b14, b15, b16] ∧ a = ⟨#[.pointer (some ⟨gz, 0, none⟩), .pointer (some ⟨gx, 0, none⟩), .pointer (some ⟨gy, 0, none⟩), undef, undef, undef, .pointer none, v7, v8, v9, .pointer (some ⟨gx, 0, none⟩), .pointer (some ⟨gx, 0, none⟩), .pointer (some ⟨gx, 0, none⟩), .pointer (some ⟨gy, 0, none⟩), v14, v15, v16, .pointer (some ⟨gy, 0, none⟩), .pointer (some ⟨gy, 0, none⟩), .pointer (some ⟨gy, 0, none⟩), .pointer (some ⟨gx, 0, none⟩), v21, v22, v23, undef, undef, undef, undef, undef, undef, undef, undef, undef], []⟩ ∧ SubI gx gy xa xb ya yb w W b0 b1 b6 b7 b8 b13 b14 b15 b16 g8 g9 g16 v7 v8 v9 v14 v15 v16 v21 v22 v23) #[false, false, true, true, true, true, false, false, false, true, true, true, true, false, false, false, false] (by kernel_rfl) (by kernel_rfl) ⟨false, false, false, false, false, false, false, false, false, 0, 0, 0, undef, undef, undef, undef, undef, undef, undef, undef, undef, rfl, rfl, ?_⟩ ?_ ?_
  · exact { below := ⟨rfl, rfl, rfl, Nat.le_refl _, fun _ _ => rfl⟩, box8 := fun e => Bool.noConfusion e, box9 := fun e => Bool.noConfusion e, box16 := fun e => Bool.noConfusion e, d89 := fun e => Bool.noConfusion e, d816 := fun e => Bool.noConfusion e, d916 := fun e => Bool.noConfusion e, p14 := fun e => Bool.noConfusion e, p21 := fun e => Bool.noConfusion e, p15 := fun e => Bool.noConfusion e, p22 := fun e => Bool.noConfusion e, p23 := fun e => Bool.noConfusion e, p7 := fun e => Bool.noConfusion e, o7 := fun e => Bool.noConfusion e, o14 := fun e => Bool.noConfusion e, o15 := fun e => Bool.noConfusion e, o16 := fun e => Bool.noConfusion e }
  rotate_left
  · rintro l a W i o ⟨b0, b1, b6, b7, b8, b13, b14, b15, b16, g8, g9, g16, v7, v8, v9, v14, v15, v16, v21, v22, v23, rfl, rfl, hI⟩ h0 ho hall K hK
    have hi : i < 17 := (Array.getElem?_eq_some_iff.1 ho).1
    have hii : i = 0 ∨ i = 1 ∨ i = 2 ∨ i = 3 ∨ i = 4 ∨ i = 5 ∨ i = 6 ∨ i = 7 ∨ i = 8 ∨ i = 9 ∨ i = 10 ∨ i = 11 ∨ i = 12 ∨ i = 13 ∨ i = 14 ∨ i = 15 ∨ i = 16 := by omega
    clear hi
    rcases hii with rfl | rfl | rfl | rfl | rfl | rfl | rfl | rfl | rfl | rfl | rfl | rfl | rfl | rfl | rfl | rfl | rfl
    · simp only [List.getElem?_toArray, List.getElem?_cons_zero, Option.some.injEq] at ho
      subst ho
      have hN := hI.new0 h0
      have HN := Hid.mk hN
      clear hN hall h0
      go_simp
      exact hK.out _ _ ⟨_, _, _, _, _, _, _, _, _, _, _, _, _, _, _, _, _, _, _, _, _, rfl, rfl, HN.out⟩
    · simp only [List.getElem?_toArray, List.getElem?_cons_zero, List.getElem?_cons_succ, Option.some.injEq] at ho
      subst ho
      have hN := hI.new1 h0
      have HN := Hid.mk hN
      clear hN hall h0
      go_simp
      exact hK.out _ _ ⟨_, _, _, _, _, _, _, _, _, _, _, _, _, _, _, _, _, _, _, _, _, rfl, rfl, HN.out⟩
    · exact Bool.noConfusion h0
    · exact Bool.noConfusion h0
    · exact Bool.noConfusion h0
    · exact Bool.noConfusion h0
    · simp only [List.getElem?_toArray, List.getElem?_cons_zero, List.getElem?_cons_succ, Option.some.injEq] at ho
      subst ho
      have HN := Hid.mk (hI.den6 )
      have HC := Hid.mk (den_z gy ya yb W (HY.out.kept hI.below) (by have := HYB.out; omega))
      clear hall h0 hI
      go_simp
      go_wp2_with fail
      with_reducible refine HC.out.mono ?_
      rintro e W2 ⟨rfl, hw2⟩
      obtain rfl := hw2.symm
      go_wp2_with fail
      exact hK.out _ _ ⟨_, _, _, _, _, _, _, _, _, _, _, _, _, _, _, _, _, _, _, _, _, rfl, rfl, HN.out⟩
    · simp only [List.getElem?_toArray, List.getElem?_cons_zero, List.getElem?_cons_succ, Option.some.injEq] at ho
      subst ho
      have e1 : b1 = true := hall ⟨1, .data⟩ (by simp) rfl
      have e6 : b6 = true := hall ⟨6, .data⟩ (by simp) rfl
      obtain ⟨hv1, hv2, hv3, hC⟩ := hI.call7 HX.out HY.out HBD.out h0 e1 e6
      unfold ptr at hv1 hv3
      have HC := Hid.mk hC
      subst hv1 hv3
      clear hC hall h0 hI
      go_simp
      go_wp2_with fail
      with_reducible refine HC.out.mono ?_
      rintro e W2 ⟨rfl, hI2⟩
      have HI2 := Hid.mk hI2
      clear hI2
      go_wp2_with fail
      exact hK.out _ _ ⟨_, _, _, _, _, _, _, _, _, _, _, _, _, _, _, _, _, _, _, _, _, rfl, rfl, HI2.out⟩
    · simp only [List.getElem?_toArray, List.getElem?_cons_zero, List.getElem?_cons_succ, Option.some.injEq] at ho
      subst ho
      have hN := hI.new8 h0
      have HN := Hid.mk hN
      clear hN hall h0
      go_simp
      exact hK.out _ _ ⟨_, _, _, _, _, _, _, _, _, _, _, _, _, _, _, _, _, _, _, _, _, rfl, rfl, HN.out⟩
    · exact Bool.noConfusion h0
    · exact Bool.noConfusion h0
    · exact Bool.noConfusion h0
    · exact Bool.noConfusion h0
    · simp only [List.getElem?_toArray, List.getElem?_cons_zero, List.getElem?_cons_succ, Option.some.injEq] at ho
      subst ho
      have e7 : b7 = true := hall ⟨7, .chain⟩ (by simp) rfl
      have HN := Hid.mk (hI.den13 e7 )
      have HC := Hid.mk (den_z gx xa xb W (HX.out.kept hI.below) (by have := HXB.out; omega))
      clear hall h0 hI
      go_simp
      go_wp2_with fail
      with_reducible refine HC.out.mono ?_
      rintro e W2 ⟨rfl, hw2⟩
      obtain rfl := hw2.symm
      go_wp2_with fail
      exact hK.out _ _ ⟨_, _, _, _, _, _, _, _, _, _, _, _, _, _, _, _, _, _, _, _, _, rfl, rfl, HN.out⟩
    · simp only [List.getElem?_toArray, List.getElem?_cons_zero, List.getElem?_cons_succ, Option.some.injEq] at ho
      subst ho
      have e8 : b8 = true := hall ⟨8, .data⟩ (by simp) rfl
      have e13 : b13 = true := hall ⟨13, .data⟩ (by simp) rfl
      obtain ⟨hv1, hv2, hv3, hC⟩ := hI.call14 HX.out HY.out HBD.out h0 e8 e13
      unfold ptr at hv1 hv3
      have HC := Hid.mk hC
      subst hv1 hv3
      clear hC hall h0 hI
      go_simp
      go_wp2_with fail
      with_reducible refine HC.out.mono ?_
      rintro e W2 ⟨rfl, hI2⟩
      have HI2 := Hid.mk hI2
      clear hI2
      go_wp2_with fail
      exact hK.out _ _ ⟨_, _, _, _, _, _, _, _, _, _, _, _, _, _, _, _, _, _, _, _, _, rfl, rfl, HI2.out⟩
    · simp only [List.getElem?_toArray, List.getElem?_cons_zero, List.getElem?_cons_succ, Option.some.injEq] at ho
      subst ho
      have e0 : b0 = true := hall ⟨0, .data⟩ (by simp) rfl
      have e7 : b7 = true := hall ⟨7, .data⟩ (by simp) rfl
      have e14 : b14 = true := hall ⟨14, .data⟩ (by simp) rfl
      obtain ⟨hv1, hv2, hv3, hC⟩ := hI.call15 HX.out HY.out HBD.out h0 e0 e7 e14
      unfold ptr at hv1 hv2 hv3
      have HC := Hid.mk hC
      subst hv1 hv2 hv3
      clear hC hall h0 hI
      go_simp
      go_wp2_with fail
      with_reducible refine HC.out.mono ?_
      rintro e W2 ⟨rfl, hI2⟩
      have HI2 := Hid.mk hI2
      clear hI2
      go_wp2_with fail
      exact hK.out _ _ ⟨_, _, _, _, _, _, _, _, _, _, _, _, _, _, _, _, _, _, _, _, _, rfl, rfl, HI2.out⟩
    · simp only [List.getElem?_toArray, List.getElem?_cons_zero, List.getElem?_cons_succ, Option.some.injEq] at ho
      subst ho
      have e15 : b15 = true := hall ⟨15, .data⟩ (by simp) rfl
      have HN := Hid.mk (hI.set16 e15)
      clear hall h0 hI
      go_simp
      exact hK.out _ _ ⟨_, _, _, _, _, _, _, _, _, _, _, _, _, _, _, _, _, _, _, _, _, rfl, rfl, HN.out⟩
  rintro l a W ⟨b0, b1, b6, b7, b8, b13, b14, b15, b16, g8, g9, g16, v7, v8, v9, v14, v15, v16, v21, v22, v23, rfl, rfl, hI⟩ hr
  cases b0 with
  | false => exact (Oi.ready_nil (i := 0) hr rfl rfl (by intro e he _; simp at he; try (rcases he with rfl <;> rfl))).elim
  | true =>
  cases b1 with
  | false => exact (Oi.ready_nil (i := 1) hr rfl rfl (by intro e he _; simp at he; try (rcases he with rfl <;> rfl))).elim
  | true =>
  cases b6 with
  | false => exact (Oi.ready_nil (i := 6) hr rfl rfl (by intro e he _; simp at he; try (rcases he with rfl <;> rfl))).elim
  | true =>
  cases b7 with
  | false => exact (Oi.ready_nil (i := 7) hr rfl rfl (by intro e he _; simp at he; try (rcases he with rfl | rfl | rfl | rfl <;> rfl))).elim
  | true =>
  cases b8 with
  | false => exact (Oi.ready_nil (i := 8) hr rfl rfl (by intro e he _; simp at he; try (rcases he with rfl <;> rfl))).elim
  | true =>
  cases b13 with
  | false => exact (Oi.ready_nil (i := 13) hr rfl rfl (by intro e he _; simp at he; try (rcases he with rfl | rfl <;> rfl))).elim
  | true =>
  cases b14 with
  | false => exact (Oi.ready_nil (i := 14) hr rfl rfl (by intro e he _; simp at he; try (rcases he with rfl | rfl | rfl | rfl <;> rfl))).elim
  | true =>
  cases b15 with
  | false => exact (Oi.ready_nil (i := 15) hr rfl rfl (by intro e he _; simp at he; try (rcases he with rfl | rfl | rfl | rfl <;> rfl))).elim
  | true =>
  cases b16 with
  | false => exact (Oi.ready_nil (i := 16) hr rfl rfl (by intro e he _; simp at he; try (rcases he with rfl | rfl | rfl | rfl | rfl | rfl | rfl | rfl | rfl | rfl | rfl | rfl | rfl | rfl | rfl | rfl | rfl | rfl <;> rfl))).elim
  | true =>
  clear hr
  have hp7 := hI.p7 rfl
  unfold ptr at hp7
  subst hp7
  obtain ⟨-, hg8, -, hz8⟩ := hI.box8 rfl
  replace hz8 := hz8 rfl
  have hbl := hI.below
  have hxl := HX.out.num.lt
  have hyl := HY.out.num.lt
  clear hI
  have HX2 := Hid.mk (HX.out.kept hbl)
  have HY2 := Hid.mk (HY.out.kept hbl)
  have hZ1 := zvB W
  have HD1 := Hid.mk (den_z gx xa xb _ (HX2.out.kept hZ1) (by have := HXB.out; omega))
  have HD2 := Hid.mk (den_z gy ya yb _ (HY2.out.kept hZ1) (by have := HYB.out; omega))
  have HM := Hid.mk (imul_z W.heap.size zvC _ gx 2 gy 2 xb yb _ (HX2.out.kept hZ1).den (HY2.out.kept hZ1).den (zv_new W) zv_int (by have := hbl.size; omega) (by have := hbl.size; omega) (by have := HXB.out; omega) HBD.out.x4 (by have := HYB.out; omega) HBD.out.y4)
  have HZ8 := Hid.mk (hz8.kept hZ1)
  have H8L := Hid.mk hz8.lt
  have HWL := Hid.mk hbl
  have HZ1 := Hid.mk hZ1
  clear hg8 hz8 hbl hxl hyl hZ1 HX2 HY2 HX HY
  go_wp2_with fail
  with_reducible refine HD1.out.mono ?_
  rintro e W2 ⟨rfl, hw2⟩
  obtain rfl := hw2.symm
  go_wp2_with fail
  with_reducible refine HD2.out.mono ?_
  rintro e W2 ⟨rfl, hw2⟩
  obtain rfl := hw2.symm
  go_wp2_with fail
  with_reducible refine HM.out.mono ?_
  rintro e W4 ⟨rfl, hO⟩
  have hbl4 := hO.below HZ1.out (Nat.le_refl _)
  have hz := (hO.int zv_int).1
  have hz8 : ZAt W4 g8 0 (xa * yb + - (ya * xb)) := HZ8.out.tch (zv_new W) zv_int.noW hO.1 (by have := H8L.out; omega)
  have hbW := bl2 HWL.out hbl4
  have HS := Hid.mk (setFrac_pos gz cs g8 0 W.heap.size 0 (xa * yb + - (ya * xb)) (xb * yb) W4 (HB.out.kept hbW) HV.out hz8 hz (Int.mul_pos HXB.out HYB.out) HBD.out.r1 HBD.out.r2 HBD.out.d1)
  have HBW := Hid.mk hbW
  clear hO hbl4 hz hz8 hbW
  go_wp2_with fail
  with_reducible refine HS.out.mono ?_
  rintro e W5 ⟨rfl, hR, ht⟩
  have HR := Hid.mk hR
  have HT := Hid.mk ((Tch.of HBW.out).trans ht)
  clear hR ht
  go_wp2_with fail
  go_ret
  exact ⟨rfl, HR.out, HT.out⟩
end Ww
end Go.Proofs.YtjgliinpaadbnaaGreatDoor
namespace Go.Proofs.YtjgliinpaadbnaaGreatDoor
open Go.ChangeShapes Go.WideShapes Go.ChangeAt Go.RowKit Go.Sort
namespace Ww
open Wm Sm
open Bw (Tch bl2 cell_kept)
open Oi (ptr Box)
structure BdMul (xa xb ya yb : Int) : Prop where
  x1 : -4611686018427387903 ≤ xa
  x2 : xa ≤ 4611686018427387903
  x3 : 0 < xb
  x4 : xb ≤ 4611686018427387903
  y1 : -4611686018427387903 ≤ ya
  y2 : ya ≤ 4611686018427387903
  y3 : 0 < yb
  y4 : yb ≤ 4611686018427387903
structure MulI (gz gx gy : Nat) (xa xb ya yb PP QQ : Int) (w0 W : World) (b1 b8 b9 b11 b13 b14 b15 b16 : Bool) (gA gB : Nat) (v8 v15 v16 v18 v20 v21 v22 v6 : Value) : Prop where
  below : b15 = false → Below w0.heap.size w0 W
  boxA : b15 = false → Box b1 b8 (xa * ya) w0.heap.size W gA v8
  boxB : b15 = false → Box b9 b14 (xb * yb) w0.heap.size W gB v16
  dAB : b1 = true → b9 = true → gA ≠ gB
  pD1 : b11 = true → v18 = ptr gx 2
  pD2 : b13 = true → v20 = ptr gy 2
  pA : b8 = true → v15 = ptr gA 0
  pB : b14 = true → v21 = ptr gB 0
  oA : b8 = true → b1 = true
  oB : b14 = true → b9 = true
  oD1 : b14 = true → b11 = true
  oD2 : b14 = true → b13 = true
  o15 : b15 = true → b1 = true ∧ b8 = true ∧ b9 = true ∧ b11 = true ∧ b13 = true ∧ b14 = true
  fin : b15 = true → v22 = ptr gz 0 ∧ RatAt W gz PP QQ ∧ Tch [gz] w0 W
  p6 : b16 = true → v6 = ptr gz 0
  o16 : b16 = true → b15 = true
namespace MulI
variable {gz gx gy : Nat} {xa xb ya yb PP QQ : Int} {w0 W : World} {b1 b8 b9 b11 b13 b14 b15 b16 : Bool} {gA gB : Nat} {v8 v15 v16 v18 v20 v21 v22 v6 : Value}
theorem not1 (h : MulI gz gx gy xa xb ya yb PP QQ w0 W b1 b8 b9 b11 b13 b14 b15 b16 gA gB v8 v15 v16 v18 v20 v21 v22 v6) (hb : b1 = false) : b15 = false := by
  cases e : b15 with
  | false => rfl
  | true => exact absurd (h.o15 e).1 (by rw [hb]; simp)
theorem not8 (h : MulI gz gx gy xa xb ya yb PP QQ w0 W b1 b8 b9 b11 b13 b14 b15 b16 gA gB v8 v15 v16 v18 v20 v21 v22 v6) (hb : b8 = false) : b15 = false := by
  cases e : b15 with
  | false => rfl
  | true => exact absurd (h.o15 e).2.1 (by rw [hb]; simp)
theorem not9 (h : MulI gz gx gy xa xb ya yb PP QQ w0 W b1 b8 b9 b11 b13 b14 b15 b16 gA gB v8 v15 v16 v18 v20 v21 v22 v6) (hb : b9 = false) : b15 = false := by
  cases e : b15 with
  | false => rfl
  | true => exact absurd (h.o15 e).2.2.1 (by rw [hb]; simp)
theorem not11 (h : MulI gz gx gy xa xb ya yb PP QQ w0 W b1 b8 b9 b11 b13 b14 b15 b16 gA gB v8 v15 v16 v18 v20 v21 v22 v6) (hb : b11 = false) : b15 = false := by
  cases e : b15 with
  | false => rfl
  | true => exact absurd (h.o15 e).2.2.2.1 (by rw [hb]; simp)
theorem not13 (h : MulI gz gx gy xa xb ya yb PP QQ w0 W b1 b8 b9 b11 b13 b14 b15 b16 gA gB v8 v15 v16 v18 v20 v21 v22 v6) (hb : b13 = false) : b15 = false := by
  cases e : b15 with
  | false => rfl
  | true => exact absurd (h.o15 e).2.2.2.2.1 (by rw [hb]; simp)
theorem not14 (h : MulI gz gx gy xa xb ya yb PP QQ w0 W b1 b8 b9 b11 b13 b14 b15 b16 gA gB v8 v15 v16 v18 v20 v21 v22 v6) (hb : b14 = false) : b15 = false := by
  cases e : b15 with
  | false => rfl
  | true => exact absurd (h.o15 e).2.2.2.2.2 (by rw [hb]; simp)
theorem new1 (h : MulI gz gx gy xa xb ya yb PP QQ w0 W b1 b8 b9 b11 b13 b14 b15 b16 gA gB v8 v15 v16 v18 v20 v21 v22 v6) (hb : b1 = false) : MulI gz gx gy xa xb ya yb PP QQ w0 (W.alloc (.cells #[.bool false, .slice none 0 0] 85)) true b8 b9 b11 b13 b14 b15 b16 W.heap.size gB (ptr W.heap.size 0) v15 v16 v18 v20 v21 v22 v6 :=
  have hn := h.not1 hb
  { below := fun _ => (h.below hn).alloc (h.below hn).size _, boxA := fun _ => Box.fresh (h.below hn).size h.oA hb, boxB := fun _ => (h.boxB hn).kept (zvB W), dAB := fun _ e => fun x => absurd ((h.boxB hn).lt e) (by omega), pD1 := h.pD1, pD2 := h.pD2, pA := fun e => absurd (h.oA e) (by rw [hb]; simp), pB := h.pB, oA := fun _ => rfl, oB := h.oB, oD1 := h.oD1, oD2 := h.oD2, o15 := fun e => Bool.noConfusion (hn.symm.trans e), fin := fun e => Bool.noConfusion (hn.symm.trans e), p6 := h.p6, o16 := h.o16 }
theorem new9 (h : MulI gz gx gy xa xb ya yb PP QQ w0 W b1 b8 b9 b11 b13 b14 b15 b16 gA gB v8 v15 v16 v18 v20 v21 v22 v6) (hb : b9 = false) : MulI gz gx gy xa xb ya yb PP QQ w0 (W.alloc (.cells #[.bool false, .slice none 0 0] 85)) b1 b8 true b11 b13 b14 b15 b16 gA W.heap.size v8 v15 (ptr W.heap.size 0) v18 v20 v21 v22 v6 :=
  have hn := h.not9 hb
  { below := fun _ => (h.below hn).alloc (h.below hn).size _, boxA := fun _ => (h.boxA hn).kept (zvB W), boxB := fun _ => Box.fresh (h.below hn).size h.oB hb, dAB := fun e _ => fun x => absurd ((h.boxA hn).lt e) (by omega), pD1 := h.pD1, pD2 := h.pD2, pA := h.pA, pB := fun e => absurd (h.oB e) (by rw [hb]; simp), oA := h.oA, oB := fun _ => rfl, oD1 := h.oD1, oD2 := h.oD2, o15 := fun e => Bool.noConfusion (hn.symm.trans e), fin := fun e => Bool.noConfusion (hn.symm.trans e), p6 := h.p6, o16 := h.o16 }
theorem den11 (h : MulI gz gx gy xa xb ya yb PP QQ w0 W b1 b8 b9 b11 b13 b14 b15 b16 gA gB v8 v15 v16 v18 v20 v21 v22 v6) (hb : b11 = false) : MulI gz gx gy xa xb ya yb PP QQ w0 W b1 b8 b9 true b13 b14 b15 b16 gA gB v8 v15 v16 (ptr gx 2) v20 v21 v22 v6 :=
  have hn := h.not11 hb
  { below := h.below, boxA := h.boxA, boxB := h.boxB, dAB := h.dAB, pD1 := fun _ => rfl, pD2 := h.pD2, pA := h.pA, pB := h.pB, oA := h.oA, oB := h.oB, oD1 := fun _ => rfl, oD2 := h.oD2, o15 := fun e => Bool.noConfusion (hn.symm.trans e), fin := fun e => Bool.noConfusion (hn.symm.trans e), p6 := h.p6, o16 := h.o16 }
theorem den13 (h : MulI gz gx gy xa xb ya yb PP QQ w0 W b1 b8 b9 b11 b13 b14 b15 b16 gA gB v8 v15 v16 v18 v20 v21 v22 v6) (hb : b13 = false) : MulI gz gx gy xa xb ya yb PP QQ w0 W b1 b8 b9 b11 true b14 b15 b16 gA gB v8 v15 v16 v18 (ptr gy 2) v21 v22 v6 :=
  have hn := h.not13 hb
  { below := h.below, boxA := h.boxA, boxB := h.boxB, dAB := h.dAB, pD1 := h.pD1, pD2 := fun _ => rfl, pA := h.pA, pB := h.pB, oA := h.oA, oB := h.oB, oD1 := h.oD1, oD2 := fun _ => rfl, o15 := fun e => Bool.noConfusion (hn.symm.trans e), fin := fun e => Bool.noConfusion (hn.symm.trans e), p6 := h.p6, o16 := h.o16 }
theorem set16 (h : MulI gz gx gy xa xb ya yb PP QQ w0 W b1 b8 b9 b11 b13 b14 b15 b16 gA gB v8 v15 v16 v18 v20 v21 v22 v6) (e : b15 = true) : MulI gz gx gy xa xb ya yb PP QQ w0 W b1 b8 b9 b11 b13 b14 b15 true gA gB v8 v15 v16 v18 v20 v21 v22 v22 := { below := h.below, boxA := h.boxA, boxB := h.boxB, dAB := h.dAB, pD1 := h.pD1, pD2 := h.pD2, pA := h.pA, pB := h.pB, oA := h.oA, oB := h.oB, oD1 := h.oD1, oD2 := h.oD2, o15 := h.o15, fin := h.fin, p6 := fun _ => (h.fin e).1, o16 := fun _ => e }
theorem call8 (h : MulI gz gx gy xa xb ya yb PP QQ w0 W b1 b8 b9 b11 b13 b14 b15 b16 gA gB v8 v15 v16 v18 v20 v21 v22 v6) (HX : RatAt w0 gx xa xb) (HY : RatAt w0 gy ya yb) (B : BdMul xa xb ya yb) (hb : b8 = false) (e1 : b1 = true) :
    v8 = ptr gA 0 ∧ (True) ∧ (True) ∧ Calls Tryz.prog 94 #[.pointer (some ⟨gA, 0, none⟩), .pointer (some ⟨gx, 0, none⟩), .pointer (some ⟨gy, 0, none⟩)] W fun e W2 => e = .returned (.pointer (some ⟨gA, 0, none⟩)) ∧ MulI gz gx gy xa xb ya yb PP QQ w0 W2 b1 true b9 b11 b13 b14 b15 b16 gA gB v8 (ptr gA 0) v16 v18 v20 v21 v22 v6 := by
  have hn := h.not8 hb
  obtain ⟨q1, q2, ⟨cs, hB, hi⟩, _⟩ := h.boxA hn e1
  have hgx := HX.num.lt
  have hgy := HY.num.lt
  refine ⟨q1, trivial, trivial, (imul_z gA cs _ gx 0 gy 0 xa ya W ((HX.kept (h.below hn)).num) ((HY.kept (h.below hn)).num) hB hi (by omega) (by omega) B.x1 B.x2 B.y1 B.y2).mono ?_⟩
  rintro e W2 ⟨rfl, hO⟩
  exact ⟨rfl, { below := fun _ => hO.below (h.below hn) q2, boxA := fun _ _ => ⟨q1, q2, (hO.int hi).2, fun _ => (hO.int hi).1⟩, boxB := fun _ => (h.boxB hn).tch hB hi.noW hO.1 (fun e => (h.dAB e1 e).symm), dAB := h.dAB, pD1 := h.pD1, pD2 := h.pD2, pA := fun _ => rfl, pB := h.pB, oA := fun _ => e1, oB := h.oB, oD1 := h.oD1, oD2 := h.oD2, o15 := fun e => Bool.noConfusion (hn.symm.trans e), fin := fun e => Bool.noConfusion (hn.symm.trans e), p6 := h.p6, o16 := h.o16 }⟩
theorem call14 (h : MulI gz gx gy xa xb ya yb PP QQ w0 W b1 b8 b9 b11 b13 b14 b15 b16 gA gB v8 v15 v16 v18 v20 v21 v22 v6) (HX : RatAt w0 gx xa xb) (HY : RatAt w0 gy ya yb) (B : BdMul xa xb ya yb) (hb : b14 = false) (e9 : b9 = true) (e11 : b11 = true) (e13 : b13 = true) :
    v16 = ptr gB 0 ∧ (v18 = ptr gx 2) ∧ (v20 = ptr gy 2) ∧ Calls Tryz.prog 94 #[.pointer (some ⟨gB, 0, none⟩), .pointer (some ⟨gx, 2, none⟩), .pointer (some ⟨gy, 2, none⟩)] W fun e W2 => e = .returned (.pointer (some ⟨gB, 0, none⟩)) ∧ MulI gz gx gy xa xb ya yb PP QQ w0 W2 b1 b8 b9 b11 b13 true b15 b16 gA gB v8 v15 v16 v18 v20 (ptr gB 0) v22 v6 := by
  have hn := h.not14 hb
  obtain ⟨q1, q2, ⟨cs, hB, hi⟩, _⟩ := h.boxB hn e9
  have hgx := HX.num.lt
  have hgy := HY.num.lt
  refine ⟨q1, h.pD1 e11, h.pD2 e13, (imul_z gB cs _ gx 2 gy 2 xb yb W ((HX.kept (h.below hn)).den) ((HY.kept (h.below hn)).den) hB hi (by omega) (by omega) (by have := B.x3; omega) B.x4 (by have := B.y3; omega) B.y4).mono ?_⟩
  rintro e W2 ⟨rfl, hO⟩
  exact ⟨rfl, { below := fun _ => hO.below (h.below hn) q2, boxA := fun _ => (h.boxA hn).tch hB hi.noW hO.1 (fun e => h.dAB e e9), boxB := fun _ _ => ⟨q1, q2, (hO.int hi).2, fun _ => (hO.int hi).1⟩, dAB := h.dAB, pD1 := h.pD1, pD2 := h.pD2, pA := h.pA, pB := fun _ => rfl, oA := h.oA, oB := fun _ => e9, oD1 := fun _ => e11, oD2 := fun _ => e13, o15 := fun e => Bool.noConfusion (hn.symm.trans e), fin := fun e => Bool.noConfusion (hn.symm.trans e), p6 := h.p6, o16 := h.o16 }⟩
theorem call15 (h : MulI gz gx gy xa xb ya yb PP QQ w0 W b1 b8 b9 b11 b13 b14 b15 b16 gA gB v8 v15 v16 v18 v20 v21 v22 v6) (HS : (∀ W gA gB, Below w0.heap.size w0 W → ZAt W gA 0 (xa * ya) → ZAt W gB 0 (xb * yb) → Calls Tryz.prog 92 #[.pointer (some ⟨gz, 0, none⟩), .pointer (some ⟨gA, 0, none⟩), .pointer (some ⟨gB, 0, none⟩)] W fun e w' => e = .returned (.pointer (some ⟨gz, 0, none⟩)) ∧ RatAt w' gz PP QQ ∧ Tch [gz] W w')) (hb : b15 = false) (e8 : b8 = true) (e14 : b14 = true) (eD1 : b11 = true) (eD2 : b13 = true) :
    v15 = ptr gA 0 ∧ v21 = ptr gB 0 ∧ Calls Tryz.prog 92 #[.pointer (some ⟨gz, 0, none⟩), .pointer (some ⟨gA, 0, none⟩), .pointer (some ⟨gB, 0, none⟩)] W fun e W2 => e = .returned (.pointer (some ⟨gz, 0, none⟩)) ∧ MulI gz gx gy xa xb ya yb PP QQ w0 W2 b1 b8 b9 b11 b13 b14 true b16 gA gB v8 v15 v16 v18 v20 v21 (ptr gz 0) v6 := by
  obtain ⟨_, _, _, zA⟩ := h.boxA hb (h.oA e8)
  obtain ⟨_, _, _, zB⟩ := h.boxB hb (h.oB e14)
  refine ⟨h.pA e8, h.pB e14, (HS W gA gB (h.below hb) (zA e8) (zB e14)).mono ?_⟩
  rintro e W2 ⟨rfl, hR, ht⟩
  exact ⟨rfl, { below := fun e => Bool.noConfusion e, boxA := fun e => Bool.noConfusion e, boxB := fun e => Bool.noConfusion e, dAB := h.dAB, pD1 := h.pD1, pD2 := h.pD2, pA := h.pA, pB := h.pB, oA := h.oA, oB := h.oB, oD1 := h.oD1, oD2 := h.oD2, o15 := fun _ => ⟨h.oA e8, e8, h.oB e14, eD1, eD2, e14⟩, fin := fun _ => ⟨rfl, hR, (Tch.of (h.below hb)).trans ht⟩, p6 := h.p6, o16 := fun _ => rfl }⟩
end MulI
set_option maxHeartbeats 16000000 in
set_option maxRecDepth 100000 in
theorem rmul_z (gz gx gy : Nat) (xa xb ya yb PP QQ : Int) (w0 : World) (hx : RatAt w0 gx xa xb) (hy : RatAt w0 gy ya yb) (hbd : BdMul xa xb ya yb) (hS : (∀ W gA gB, Below w0.heap.size w0 W → ZAt W gA 0 (xa * ya) → ZAt W gB 0 (xb * yb) → Calls Tryz.prog 92 #[.pointer (some ⟨gz, 0, none⟩), .pointer (some ⟨gA, 0, none⟩), .pointer (some ⟨gB, 0, none⟩)] W fun e w' => e = .returned (.pointer (some ⟨gz, 0, none⟩)) ∧ RatAt w' gz PP QQ ∧ Tch [gz] W w')) :
    Calls Tryz.prog 50 #[.pointer (some ⟨gz, 0, none⟩), .pointer (some ⟨gx, 0, none⟩), .pointer (some ⟨gy, 0, none⟩)] w0 fun e w' => e = .returned (.pointer (some ⟨gz, 0, none⟩)) ∧ RatAt w' gz PP QQ ∧ Tch [gz] w0 w' := by
  have HX := Hid.mk hx
  have HY := Hid.mk hy
  have HBD := Hid.mk hbd
  have HS := Hid.mk hS
  clear hx hy hbd hS
  go_enter Tryz.func50, Tryz.ntmps50
  go_wp2_with fail
  refine wp_region_any (by kernel_rfl) ?_
  refine wpAny_take (i := 0) (v := .pointer (some ⟨gz, 0, none⟩)) rfl (by kernel_rfl) (by kernel_rfl) (by kernel_rfl) (fun _ _ _ h => h) (Or.inl ⟨by rfl, fun _ => by rfl⟩) ?_
  simp only [List.getElem_toArray, List.getElem_cons_zero, Act.put, List.setIfInBounds_toArray, List.set_cons_zero, List.set_cons_succ]
  refine wpAny_take (i := 2) (v := .pointer (some ⟨gx, 0, none⟩)) rfl (by kernel_rfl) (by kernel_rfl) (by kernel_rfl) (fun _ _ _ h => h) (Or.inl ⟨by rfl, fun _ => by rfl⟩) ?_
  simp only [List.getElem_toArray, List.getElem_cons_zero, List.getElem_cons_succ, Act.put, List.setIfInBounds_toArray, List.set_cons_zero, List.set_cons_succ]
  refine wpAny_take (i := 3) (v := .pointer (some ⟨gx, 0, none⟩)) rfl (by kernel_rfl) (by kernel_rfl) (by kernel_rfl) (fun _ _ _ h => h) (Or.inl ⟨by rfl, fun _ => by rfl⟩) ?_
  simp only [List.getElem_toArray, List.getElem_cons_zero, List.getElem_cons_succ, Act.put, List.setIfInBounds_toArray, List.set_cons_zero, List.set_cons_succ]
  refine wpAny_take (i := 4) (v := .pointer (some ⟨gx, 0, none⟩)) rfl (by kernel_rfl) (by kernel_rfl) (by kernel_rfl) (fun _ _ _ h => h) (Or.inl ⟨by rfl, fun _ => by rfl⟩) ?_
  simp only [List.getElem_toArray, List.getElem_cons_zero, List.getElem_cons_succ, Act.put, List.setIfInBounds_toArray, List.set_cons_zero, List.set_cons_succ]
  refine wpAny_take (i := 5) (v := .pointer (some ⟨gy, 0, none⟩)) rfl (by kernel_rfl) (by kernel_rfl) (by kernel_rfl) (fun _ _ _ h => h) (Or.inl ⟨by rfl, fun _ => by rfl⟩) ?_
  simp only [List.getElem_toArray, List.getElem_cons_zero, List.getElem_cons_succ, Act.put, List.setIfInBounds_toArray, List.set_cons_zero, List.set_cons_succ]
  refine wpAny_take (i := 6) (v := .pointer (some ⟨gy, 0, none⟩)) rfl (by kernel_rfl) (by kernel_rfl) (by kernel_rfl) (fun _ _ _ h => h) (Or.inl ⟨by rfl, fun _ => by rfl⟩) ?_
  simp only [List.getElem_toArray, List.getElem_cons_zero, List.getElem_cons_succ, Act.put, List.setIfInBounds_toArray, List.set_cons_zero, List.set_cons_succ]
  refine wpAny_take (i := 7) (v := .pointer (some ⟨gy, 0, none⟩)) rfl (by kernel_rfl) (by kernel_rfl) (by kernel_rfl) (fun _ _ _ h => h) (Or.inl ⟨by rfl, fun _ => by rfl⟩) ?_
  simp only [List.getElem_toArray, List.getElem_cons_zero, List.getElem_cons_succ, Act.put, List.setIfInBounds_toArray, List.set_cons_zero, List.set_cons_succ]
  refine wpAny_take (i := 10) (v := .pointer (some ⟨gx, 0, none⟩)) rfl (by kernel_rfl) (by kernel_rfl) (by kernel_rfl) (fun _ _ _ h => h) (Or.inl ⟨by rfl, fun _ => by rfl⟩) ?_
  simp only [List.getElem_toArray, List.getElem_cons_zero, List.getElem_cons_succ, Act.put, List.setIfInBounds_toArray, List.set_cons_zero, List.set_cons_succ]
  refine wpAny_take (i := 12) (v := .pointer (some ⟨gy, 0, none⟩)) rfl (by kernel_rfl) (by kernel_rfl) (by kernel_rfl) (fun _ _ _ h => h) (Or.inl ⟨by rfl, fun _ => by rfl⟩) ?_
  simp only [List.getElem_toArray, List.getElem_cons_zero, List.getElem_cons_succ, Act.put, List.setIfInBounds_toArray, List.set_cons_zero, List.set_cons_succ]
  refine Oi.wpAny_start (fun l a W => ∃ b1 b8 b9 b11 b13 b14 b15 b16 gA gB v8 v15 v16 v18 v20 v21 v22 v6, l = #[true, b1, true, true, true, true, true, true, b8, b9, true, b11, true, b13, b14, b15, b16] ∧ a = ⟨#[.pointer (some ⟨gz, 0, none⟩), .pointer (some ⟨gx, 0, none⟩), .pointer (some ⟨gy, 0, none⟩), undef, undef, undef, v6, .pointer (some ⟨gz, 0, none⟩), v8, .pointer (some ⟨gx, 0, none⟩), .pointer (some ⟨gx, 0, none⟩), .pointer (some ⟨gx, 0, none⟩), .pointer (some ⟨gy, 0, none⟩), .pointer (some ⟨gy, 0, none⟩), .pointer (some ⟨gy, 0, none⟩), v15, v16, .pointer (some ⟨gx, 0, none⟩), v18, .pointer (some ⟨gy, 0, none⟩), v20, v21, v22], []⟩ ∧ MulI gz gx gy xa xb ya yb PP QQ w0 W b1 b8 b9 b11 b13 b14 b15 b16 gA gB v8 v15 v16 v18 v20 v21 v22 v6) #[true, false, true, true, true, true, true, true, false, false, true, false, true, false, false, false, false] (by kernel_rfl) (by kernel_rfl) ⟨false, false, false, false, false, false, false, false, 0, 0, undef, undef, undef, undef, undef, undef, undef, .pointer none, rfl, rfl, ?_⟩ ?_ ?_
  · exact { below := fun _ => ⟨rfl, rfl, rfl, Nat.le_refl _, fun _ _ => rfl⟩, boxA := fun _ e => Bool.noConfusion e, boxB := fun _ e => Bool.noConfusion e, dAB := fun e => Bool.noConfusion e, pD1 := fun e => Bool.noConfusion e, pD2 := fun e => Bool.noConfusion e, pA := fun e => Bool.noConfusion e, pB := fun e => Bool.noConfusion e, oA := fun e => Bool.noConfusion e, oB := fun e => Bool.noConfusion e, oD1 := fun e => Bool.noConfusion e, oD2 := fun e => Bool.noConfusion e, o15 := fun e => Bool.noConfusion e, fin := fun e => Bool.noConfusion e, p6 := fun e => Bool.noConfusion e, o16 := fun e => Bool.noConfusion e }
  rotate_left
  · rintro l a W i o ⟨b1, b8, b9, b11, b13, b14, b15, b16, gA, gB, v8, v15, v16, v18, v20, v21, v22, v6, rfl, rfl, hI⟩ h0 ho hall K hK
    have hi : i < 17 := (Array.getElem?_eq_some_iff.1 ho).1
    have hii : i = 0 ∨ i = 1 ∨ i = 2 ∨ i = 3 ∨ i = 4 ∨ i = 5 ∨ i = 6 ∨ i = 7 ∨ i = 8 ∨ i = 9 ∨ i = 10 ∨ i = 11 ∨ i = 12 ∨ i = 13 ∨ i = 14 ∨ i = 15 ∨ i = 16 := by omega
    clear hi
    rcases hii with rfl | rfl | rfl | rfl | rfl | rfl | rfl | rfl | rfl | rfl | rfl | rfl | rfl | rfl | rfl | rfl | rfl
    · exact Bool.noConfusion h0
    · simp only [List.getElem?_toArray, List.getElem?_cons_zero, List.getElem?_cons_succ, Option.some.injEq] at ho
      subst ho
      have HN := Hid.mk (hI.new1 h0)
      clear hall h0
      go_simp
      exact hK.out _ _ ⟨_, _, _, _, _, _, _, _, _, _, _, _, _, _, _, _, _, _, rfl, rfl, HN.out⟩
    · exact Bool.noConfusion h0
    · exact Bool.noConfusion h0
    · exact Bool.noConfusion h0
    · exact Bool.noConfusion h0
    · exact Bool.noConfusion h0
    · exact Bool.noConfusion h0
    · simp only [List.getElem?_toArray, List.getElem?_cons_zero, List.getElem?_cons_succ, Option.some.injEq] at ho
      subst ho
      have e1 : b1 = true := hall ⟨1, .data⟩ (by simp) rfl
      obtain ⟨hv1, hv2, hv3, hC⟩ := hI.call8 HX.out HY.out HBD.out h0 e1
      unfold ptr at hv1
      have HC := Hid.mk hC
      subst hv1
      clear hC hall h0 hI
      go_simp
      go_wp2_with fail
      with_reducible refine HC.out.mono ?_
      rintro e W2 ⟨rfl, hI2⟩
      have HI2 := Hid.mk hI2
      clear hI2
      go_wp2_with fail
      exact hK.out _ _ ⟨_, _, _, _, _, _, _, _, _, _, _, _, _, _, _, _, _, _, rfl, rfl, HI2.out⟩
    · simp only [List.getElem?_toArray, List.getElem?_cons_zero, List.getElem?_cons_succ, Option.some.injEq] at ho
      subst ho
      have HN := Hid.mk (hI.new9 h0)
      clear hall h0
      go_simp
      exact hK.out _ _ ⟨_, _, _, _, _, _, _, _, _, _, _, _, _, _, _, _, _, _, rfl, rfl, HN.out⟩
    · exact Bool.noConfusion h0
    · simp only [List.getElem?_toArray, List.getElem?_cons_zero, List.getElem?_cons_succ, Option.some.injEq] at ho
      subst ho
      have HN := Hid.mk (hI.den11 h0)
      have HC := Hid.mk (den_z gx xa xb W (HX.out.kept (hI.below (hI.not11 h0))) (by have := HBD.out.x3; omega))
      clear hall h0 hI
      go_simp
      go_wp2_with fail
      with_reducible refine HC.out.mono ?_
      rintro e W2 ⟨rfl, hw2⟩
      obtain rfl := hw2.symm
      go_wp2_with fail
      exact hK.out _ _ ⟨_, _, _, _, _, _, _, _, _, _, _, _, _, _, _, _, _, _, rfl, rfl, HN.out⟩
    · exact Bool.noConfusion h0
    · simp only [List.getElem?_toArray, List.getElem?_cons_zero, List.getElem?_cons_succ, Option.some.injEq] at ho
      subst ho
      have HN := Hid.mk (hI.den13 h0)
      have HC := Hid.mk (den_z gy ya yb W (HY.out.kept (hI.below (hI.not13 h0))) (by have := HBD.out.y3; omega))
      clear hall h0 hI
      go_simp
      go_wp2_with fail
      with_reducible refine HC.out.mono ?_
      rintro e W2 ⟨rfl, hw2⟩
      obtain rfl := hw2.symm
      go_wp2_with fail
      exact hK.out _ _ ⟨_, _, _, _, _, _, _, _, _, _, _, _, _, _, _, _, _, _, rfl, rfl, HN.out⟩
    · simp only [List.getElem?_toArray, List.getElem?_cons_zero, List.getElem?_cons_succ, Option.some.injEq] at ho
      subst ho
      have e9 : b9 = true := hall ⟨9, .data⟩ (by simp) rfl
      have e11 : b11 = true := hall ⟨11, .data⟩ (by simp) rfl
      have e13 : b13 = true := hall ⟨13, .data⟩ (by simp) rfl
      obtain ⟨hv1, hv2, hv3, hC⟩ := hI.call14 HX.out HY.out HBD.out h0 e9 e11 e13
      unfold ptr at hv1 hv2 hv3
      have HC := Hid.mk hC
      subst hv1 hv2 hv3
      clear hC hall h0 hI
      go_simp
      go_wp2_with fail
      with_reducible refine HC.out.mono ?_
      rintro e W2 ⟨rfl, hI2⟩
      have HI2 := Hid.mk hI2
      clear hI2
      go_wp2_with fail
      exact hK.out _ _ ⟨_, _, _, _, _, _, _, _, _, _, _, _, _, _, _, _, _, _, rfl, rfl, HI2.out⟩
    · simp only [List.getElem?_toArray, List.getElem?_cons_zero, List.getElem?_cons_succ, Option.some.injEq] at ho
      subst ho
      have e8 : b8 = true := hall ⟨8, .data⟩ (by simp) rfl
      have e14 : b14 = true := hall ⟨14, .data⟩ (by simp) rfl
      obtain ⟨hv1, hv2, hC⟩ := hI.call15 HS.out h0 e8 e14 (hI.oD1 e14) (hI.oD2 e14)
      unfold ptr at hv1 hv2
      have HC := Hid.mk hC
      subst hv1 hv2
      clear hC hall h0 hI
      go_simp
      go_wp2_with fail
      with_reducible refine HC.out.mono ?_
      rintro e W2 ⟨rfl, hI2⟩
      have HI2 := Hid.mk hI2
      clear hI2
      go_wp2_with fail
      exact hK.out _ _ ⟨_, _, _, _, _, _, _, _, _, _, _, _, _, _, _, _, _, _, rfl, rfl, HI2.out⟩
    · simp only [List.getElem?_toArray, List.getElem?_cons_zero, List.getElem?_cons_succ, Option.some.injEq] at ho
      subst ho
      have e15 : b15 = true := hall ⟨15, .data⟩ (by simp) rfl
      have HN := Hid.mk (hI.set16 e15)
      clear hall h0 hI
      go_simp
      exact hK.out _ _ ⟨_, _, _, _, _, _, _, _, _, _, _, _, _, _, _, _, _, _, rfl, rfl, HN.out⟩
  rintro l a W ⟨b1, b8, b9, b11, b13, b14, b15, b16, gA, gB, v8, v15, v16, v18, v20, v21, v22, v6, rfl, rfl, hI⟩ hr
  cases b1 with
  | false => exact (Oi.ready_nil (i := 1) hr rfl rfl (by intro e he _; simp at he; try (first | (rcases he with rfl | rfl | rfl | rfl | rfl | rfl | rfl | rfl | rfl | rfl | rfl | rfl | rfl | rfl | rfl | rfl | rfl | rfl <;> rfl) | (rcases he with rfl | rfl | rfl | rfl | rfl | rfl <;> rfl) | (rcases he with rfl | rfl | rfl | rfl | rfl <;> rfl) | (rcases he with rfl | rfl | rfl | rfl <;> rfl) | (rcases he with rfl | rfl | rfl <;> rfl) | (rcases he with rfl | rfl <;> rfl) | (rcases he with rfl; rfl)))).elim
  | true =>
  cases b8 with
  | false => exact (Oi.ready_nil (i := 8) hr rfl rfl (by intro e he _; simp at he; try (first | (rcases he with rfl | rfl | rfl | rfl | rfl | rfl | rfl | rfl | rfl | rfl | rfl | rfl | rfl | rfl | rfl | rfl | rfl | rfl <;> rfl) | (rcases he with rfl | rfl | rfl | rfl | rfl | rfl <;> rfl) | (rcases he with rfl | rfl | rfl | rfl | rfl <;> rfl) | (rcases he with rfl | rfl | rfl | rfl <;> rfl) | (rcases he with rfl | rfl | rfl <;> rfl) | (rcases he with rfl | rfl <;> rfl) | (rcases he with rfl; rfl)))).elim
  | true =>
  cases b9 with
  | false => exact (Oi.ready_nil (i := 9) hr rfl rfl (by intro e he _; simp at he; try (first | (rcases he with rfl | rfl | rfl | rfl | rfl | rfl | rfl | rfl | rfl | rfl | rfl | rfl | rfl | rfl | rfl | rfl | rfl | rfl <;> rfl) | (rcases he with rfl | rfl | rfl | rfl | rfl | rfl <;> rfl) | (rcases he with rfl | rfl | rfl | rfl | rfl <;> rfl) | (rcases he with rfl | rfl | rfl | rfl <;> rfl) | (rcases he with rfl | rfl | rfl <;> rfl) | (rcases he with rfl | rfl <;> rfl) | (rcases he with rfl; rfl)))).elim
  | true =>
  cases b11 with
  | false => exact (Oi.ready_nil (i := 11) hr rfl rfl (by intro e he _; simp at he; try (first | (rcases he with rfl | rfl | rfl | rfl | rfl | rfl | rfl | rfl | rfl | rfl | rfl | rfl | rfl | rfl | rfl | rfl | rfl | rfl <;> rfl) | (rcases he with rfl | rfl | rfl | rfl | rfl | rfl <;> rfl) | (rcases he with rfl | rfl | rfl | rfl | rfl <;> rfl) | (rcases he with rfl | rfl | rfl | rfl <;> rfl) | (rcases he with rfl | rfl | rfl <;> rfl) | (rcases he with rfl | rfl <;> rfl) | (rcases he with rfl; rfl)))).elim
  | true =>
  cases b13 with
  | false => exact (Oi.ready_nil (i := 13) hr rfl rfl (by intro e he _; simp at he; try (first | (rcases he with rfl | rfl | rfl | rfl | rfl | rfl | rfl | rfl | rfl | rfl | rfl | rfl | rfl | rfl | rfl | rfl | rfl | rfl <;> rfl) | (rcases he with rfl | rfl | rfl | rfl | rfl | rfl <;> rfl) | (rcases he with rfl | rfl | rfl | rfl | rfl <;> rfl) | (rcases he with rfl | rfl | rfl | rfl <;> rfl) | (rcases he with rfl | rfl | rfl <;> rfl) | (rcases he with rfl | rfl <;> rfl) | (rcases he with rfl; rfl)))).elim
  | true =>
  cases b14 with
  | false => exact (Oi.ready_nil (i := 14) hr rfl rfl (by intro e he _; simp at he; try (first | (rcases he with rfl | rfl | rfl | rfl | rfl | rfl | rfl | rfl | rfl | rfl | rfl | rfl | rfl | rfl | rfl | rfl | rfl | rfl <;> rfl) | (rcases he with rfl | rfl | rfl | rfl | rfl | rfl <;> rfl) | (rcases he with rfl | rfl | rfl | rfl | rfl <;> rfl) | (rcases he with rfl | rfl | rfl | rfl <;> rfl) | (rcases he with rfl | rfl | rfl <;> rfl) | (rcases he with rfl | rfl <;> rfl) | (rcases he with rfl; rfl)))).elim
  | true =>
  cases b15 with
  | false => exact (Oi.ready_nil (i := 15) hr rfl rfl (by intro e he _; simp at he; try (first | (rcases he with rfl | rfl | rfl | rfl | rfl | rfl | rfl | rfl | rfl | rfl | rfl | rfl | rfl | rfl | rfl | rfl | rfl | rfl <;> rfl) | (rcases he with rfl | rfl | rfl | rfl | rfl | rfl <;> rfl) | (rcases he with rfl | rfl | rfl | rfl | rfl <;> rfl) | (rcases he with rfl | rfl | rfl | rfl <;> rfl) | (rcases he with rfl | rfl | rfl <;> rfl) | (rcases he with rfl | rfl <;> rfl) | (rcases he with rfl; rfl)))).elim
  | true =>
  cases b16 with
  | false => exact (Oi.ready_nil (i := 16) hr rfl rfl (by intro e he _; simp at he; try (first | (rcases he with rfl | rfl | rfl | rfl | rfl | rfl | rfl | rfl | rfl | rfl | rfl | rfl | rfl | rfl | rfl | rfl | rfl | rfl <;> rfl) | (rcases he with rfl | rfl | rfl | rfl | rfl | rfl <;> rfl) | (rcases he with rfl | rfl | rfl | rfl | rfl <;> rfl) | (rcases he with rfl | rfl | rfl | rfl <;> rfl) | (rcases he with rfl | rfl | rfl <;> rfl) | (rcases he with rfl | rfl <;> rfl) | (rcases he with rfl; rfl)))).elim
  | true =>
  clear hr
  have hp6 := hI.p6 rfl
  unfold ptr at hp6
  subst hp6
  obtain ⟨-, hR, ht⟩ := hI.fin rfl
  have HR := Hid.mk hR
  have HT := Hid.mk ht
  clear hI hR ht
  go_wp2_with fail
  go_ret
  exact ⟨rfl, HR.out, HT.out⟩
end Ww
end Go.Proofs.YtjgliinpaadbnaaGreatDoor
namespace Go.Proofs.YtjgliinpaadbnaaGreatDoor
open Go.ChangeShapes Go.WideShapes Go.ChangeAt Go.RowKit Go.Sort
namespace Ww
open Wm Sm
open Bw (Tch bl2 cell_kept)
open Oi (ptr Box)
structure BdQuo (xa xb ya yb : Int) : Prop where
  x1 : -4611686018427387903 ≤ xa
  x2 : xa ≤ 4611686018427387903
  x3 : 0 < xb
  x4 : xb ≤ 4611686018427387903
  y1 : -4611686018427387903 ≤ ya
  y2 : ya ≤ 4611686018427387903
  y3 : 0 < yb
  y4 : yb ≤ 4611686018427387903
structure QuoI (gz gx gy : Nat) (xa xb ya yb PP QQ : Int) (w0 W : World) (b1 b6 b7 b8 b10 b14 b15 b16 : Bool) (gA gB : Nat) (v8 v13 v14 v15 v17 v21 v22 v6 : Value) : Prop where
  below : b15 = false → Below w0.heap.size w0 W
  boxA : b15 = false → Box b1 b7 (xa * yb) w0.heap.size W gA v8
  boxB : b15 = false → Box b8 b14 (xb * ya) w0.heap.size W gB v15
  dAB : b1 = true → b8 = true → gA ≠ gB
  pD1 : b10 = true → v17 = ptr gx 2
  pD2 : b6 = true → v13 = ptr gy 2
  pA : b7 = true → v14 = ptr gA 0
  pB : b14 = true → v21 = ptr gB 0
  oA : b7 = true → b1 = true
  oB : b14 = true → b8 = true
  oD1 : b14 = true → b10 = true
  oD2 : b7 = true → b6 = true
  o15 : b15 = true → b1 = true ∧ b6 = true ∧ b7 = true ∧ b8 = true ∧ b10 = true ∧ b14 = true
  fin : b15 = true → v22 = ptr gz 0 ∧ RatAt W gz PP QQ ∧ Tch [gz] w0 W
  p6 : b16 = true → v6 = ptr gz 0
  o16 : b16 = true → b15 = true
namespace QuoI
variable {gz gx gy : Nat} {xa xb ya yb PP QQ : Int} {w0 W : World} {b1 b6 b7 b8 b10 b14 b15 b16 : Bool} {gA gB : Nat} {v8 v13 v14 v15 v17 v21 v22 v6 : Value}
theorem not1 (h : QuoI gz gx gy xa xb ya yb PP QQ w0 W b1 b6 b7 b8 b10 b14 b15 b16 gA gB v8 v13 v14 v15 v17 v21 v22 v6) (hb : b1 = false) : b15 = false := by
  cases e : b15 with
  | false => rfl
  | true => exact absurd (h.o15 e).1 (by rw [hb]; simp)
theorem not6 (h : QuoI gz gx gy xa xb ya yb PP QQ w0 W b1 b6 b7 b8 b10 b14 b15 b16 gA gB v8 v13 v14 v15 v17 v21 v22 v6) (hb : b6 = false) : b15 = false := by
  cases e : b15 with
  | false => rfl
  | true => exact absurd (h.o15 e).2.1 (by rw [hb]; simp)
theorem not7 (h : QuoI gz gx gy xa xb ya yb PP QQ w0 W b1 b6 b7 b8 b10 b14 b15 b16 gA gB v8 v13 v14 v15 v17 v21 v22 v6) (hb : b7 = false) : b15 = false := by
  cases e : b15 with
  | false => rfl
  | true => exact absurd (h.o15 e).2.2.1 (by rw [hb]; simp)
theorem not8 (h : QuoI gz gx gy xa xb ya yb PP QQ w0 W b1 b6 b7 b8 b10 b14 b15 b16 gA gB v8 v13 v14 v15 v17 v21 v22 v6) (hb : b8 = false) : b15 = false := by
  cases e : b15 with
  | false => rfl
  | true => exact absurd (h.o15 e).2.2.2.1 (by rw [hb]; simp)
theorem not10 (h : QuoI gz gx gy xa xb ya yb PP QQ w0 W b1 b6 b7 b8 b10 b14 b15 b16 gA gB v8 v13 v14 v15 v17 v21 v22 v6) (hb : b10 = false) : b15 = false := by
  cases e : b15 with
  | false => rfl
  | true => exact absurd (h.o15 e).2.2.2.2.1 (by rw [hb]; simp)
theorem not14 (h : QuoI gz gx gy xa xb ya yb PP QQ w0 W b1 b6 b7 b8 b10 b14 b15 b16 gA gB v8 v13 v14 v15 v17 v21 v22 v6) (hb : b14 = false) : b15 = false := by
  cases e : b15 with
  | false => rfl
  | true => exact absurd (h.o15 e).2.2.2.2.2 (by rw [hb]; simp)
theorem new1 (h : QuoI gz gx gy xa xb ya yb PP QQ w0 W b1 b6 b7 b8 b10 b14 b15 b16 gA gB v8 v13 v14 v15 v17 v21 v22 v6) (hb : b1 = false) : QuoI gz gx gy xa xb ya yb PP QQ w0 (W.alloc (.cells #[.bool false, .slice none 0 0] 85)) true b6 b7 b8 b10 b14 b15 b16 W.heap.size gB (ptr W.heap.size 0) v13 v14 v15 v17 v21 v22 v6 :=
  have hn := h.not1 hb
  { below := fun _ => (h.below hn).alloc (h.below hn).size _, boxA := fun _ => Box.fresh (h.below hn).size h.oA hb, boxB := fun _ => (h.boxB hn).kept (zvB W), dAB := fun _ e => fun x => absurd ((h.boxB hn).lt e) (by omega), pD1 := h.pD1, pD2 := h.pD2, pA := fun e => absurd (h.oA e) (by rw [hb]; simp), pB := h.pB, oA := fun _ => rfl, oB := h.oB, oD1 := h.oD1, oD2 := h.oD2, o15 := fun e => Bool.noConfusion (hn.symm.trans e), fin := fun e => Bool.noConfusion (hn.symm.trans e), p6 := h.p6, o16 := h.o16 }
theorem new8 (h : QuoI gz gx gy xa xb ya yb PP QQ w0 W b1 b6 b7 b8 b10 b14 b15 b16 gA gB v8 v13 v14 v15 v17 v21 v22 v6) (hb : b8 = false) : QuoI gz gx gy xa xb ya yb PP QQ w0 (W.alloc (.cells #[.bool false, .slice none 0 0] 85)) b1 b6 b7 true b10 b14 b15 b16 gA W.heap.size v8 v13 v14 (ptr W.heap.size 0) v17 v21 v22 v6 :=
  have hn := h.not8 hb
  { below := fun _ => (h.below hn).alloc (h.below hn).size _, boxA := fun _ => (h.boxA hn).kept (zvB W), boxB := fun _ => Box.fresh (h.below hn).size h.oB hb, dAB := fun e _ => fun x => absurd ((h.boxA hn).lt e) (by omega), pD1 := h.pD1, pD2 := h.pD2, pA := h.pA, pB := fun e => absurd (h.oB e) (by rw [hb]; simp), oA := h.oA, oB := fun _ => rfl, oD1 := h.oD1, oD2 := h.oD2, o15 := fun e => Bool.noConfusion (hn.symm.trans e), fin := fun e => Bool.noConfusion (hn.symm.trans e), p6 := h.p6, o16 := h.o16 }
theorem den10 (h : QuoI gz gx gy xa xb ya yb PP QQ w0 W b1 b6 b7 b8 b10 b14 b15 b16 gA gB v8 v13 v14 v15 v17 v21 v22 v6) (hb : b10 = false) : QuoI gz gx gy xa xb ya yb PP QQ w0 W b1 b6 b7 b8 true b14 b15 b16 gA gB v8 v13 v14 v15 (ptr gx 2) v21 v22 v6 :=
  have hn := h.not10 hb
  { below := h.below, boxA := h.boxA, boxB := h.boxB, dAB := h.dAB, pD1 := fun _ => rfl, pD2 := h.pD2, pA := h.pA, pB := h.pB, oA := h.oA, oB := h.oB, oD1 := fun _ => rfl, oD2 := h.oD2, o15 := fun e => Bool.noConfusion (hn.symm.trans e), fin := fun e => Bool.noConfusion (hn.symm.trans e), p6 := h.p6, o16 := h.o16 }
theorem den6 (h : QuoI gz gx gy xa xb ya yb PP QQ w0 W b1 b6 b7 b8 b10 b14 b15 b16 gA gB v8 v13 v14 v15 v17 v21 v22 v6) (hb : b6 = false) : QuoI gz gx gy xa xb ya yb PP QQ w0 W b1 true b7 b8 b10 b14 b15 b16 gA gB v8 (ptr gy 2) v14 v15 v17 v21 v22 v6 :=
  have hn := h.not6 hb
  { below := h.below, boxA := h.boxA, boxB := h.boxB, dAB := h.dAB, pD1 := h.pD1, pD2 := fun _ => rfl, pA := h.pA, pB := h.pB, oA := h.oA, oB := h.oB, oD1 := h.oD1, oD2 := fun _ => rfl, o15 := fun e => Bool.noConfusion (hn.symm.trans e), fin := fun e => Bool.noConfusion (hn.symm.trans e), p6 := h.p6, o16 := h.o16 }
theorem set16 (h : QuoI gz gx gy xa xb ya yb PP QQ w0 W b1 b6 b7 b8 b10 b14 b15 b16 gA gB v8 v13 v14 v15 v17 v21 v22 v6) (e : b15 = true) : QuoI gz gx gy xa xb ya yb PP QQ w0 W b1 b6 b7 b8 b10 b14 b15 true gA gB v8 v13 v14 v15 v17 v21 v22 v22 := { below := h.below, boxA := h.boxA, boxB := h.boxB, dAB := h.dAB, pD1 := h.pD1, pD2 := h.pD2, pA := h.pA, pB := h.pB, oA := h.oA, oB := h.oB, oD1 := h.oD1, oD2 := h.oD2, o15 := h.o15, fin := h.fin, p6 := fun _ => (h.fin e).1, o16 := fun _ => e }
theorem call7 (h : QuoI gz gx gy xa xb ya yb PP QQ w0 W b1 b6 b7 b8 b10 b14 b15 b16 gA gB v8 v13 v14 v15 v17 v21 v22 v6) (HX : RatAt w0 gx xa xb) (HY : RatAt w0 gy ya yb) (B : BdQuo xa xb ya yb) (hb : b7 = false) (e1 : b1 = true) (e6 : b6 = true) :
    v8 = ptr gA 0 ∧ (True) ∧ (v13 = ptr gy 2) ∧ Calls Tryz.prog 94 #[.pointer (some ⟨gA, 0, none⟩), .pointer (some ⟨gx, 0, none⟩), .pointer (some ⟨gy, 2, none⟩)] W fun e W2 => e = .returned (.pointer (some ⟨gA, 0, none⟩)) ∧ QuoI gz gx gy xa xb ya yb PP QQ w0 W2 b1 b6 true b8 b10 b14 b15 b16 gA gB v8 v13 (ptr gA 0) v15 v17 v21 v22 v6 := by
  have hn := h.not7 hb
  obtain ⟨q1, q2, ⟨cs, hB, hi⟩, _⟩ := h.boxA hn e1
  have hgx := HX.num.lt
  have hgy := HY.num.lt
  refine ⟨q1, trivial, h.pD2 e6, (imul_z gA cs _ gx 0 gy 2 xa yb W ((HX.kept (h.below hn)).num) ((HY.kept (h.below hn)).den) hB hi (by omega) (by omega) B.x1 B.x2 (by have := B.y3; omega) B.y4).mono ?_⟩
  rintro e W2 ⟨rfl, hO⟩
  exact ⟨rfl, { below := fun _ => hO.below (h.below hn) q2, boxA := fun _ _ => ⟨q1, q2, (hO.int hi).2, fun _ => (hO.int hi).1⟩, boxB := fun _ => (h.boxB hn).tch hB hi.noW hO.1 (fun e => (h.dAB e1 e).symm), dAB := h.dAB, pD1 := h.pD1, pD2 := h.pD2, pA := fun _ => rfl, pB := h.pB, oA := fun _ => e1, oB := h.oB, oD1 := h.oD1, oD2 := fun _ => e6, o15 := fun e => Bool.noConfusion (hn.symm.trans e), fin := fun e => Bool.noConfusion (hn.symm.trans e), p6 := h.p6, o16 := h.o16 }⟩
theorem call14 (h : QuoI gz gx gy xa xb ya yb PP QQ w0 W b1 b6 b7 b8 b10 b14 b15 b16 gA gB v8 v13 v14 v15 v17 v21 v22 v6) (HX : RatAt w0 gx xa xb) (HY : RatAt w0 gy ya yb) (B : BdQuo xa xb ya yb) (hb : b14 = false) (e8 : b8 = true) (e10 : b10 = true) :
    v15 = ptr gB 0 ∧ (v17 = ptr gx 2) ∧ (True) ∧ Calls Tryz.prog 94 #[.pointer (some ⟨gB, 0, none⟩), .pointer (some ⟨gx, 2, none⟩), .pointer (some ⟨gy, 0, none⟩)] W fun e W2 => e = .returned (.pointer (some ⟨gB, 0, none⟩)) ∧ QuoI gz gx gy xa xb ya yb PP QQ w0 W2 b1 b6 b7 b8 b10 true b15 b16 gA gB v8 v13 v14 v15 v17 (ptr gB 0) v22 v6 := by
  have hn := h.not14 hb
  obtain ⟨q1, q2, ⟨cs, hB, hi⟩, _⟩ := h.boxB hn e8
  have hgx := HX.num.lt
  have hgy := HY.num.lt
  refine ⟨q1, h.pD1 e10, trivial, (imul_z gB cs _ gx 2 gy 0 xb ya W ((HX.kept (h.below hn)).den) ((HY.kept (h.below hn)).num) hB hi (by omega) (by omega) (by have := B.x3; omega) B.x4 B.y1 B.y2).mono ?_⟩
  rintro e W2 ⟨rfl, hO⟩
  exact ⟨rfl, { below := fun _ => hO.below (h.below hn) q2, boxA := fun _ => (h.boxA hn).tch hB hi.noW hO.1 (fun e => h.dAB e e8), boxB := fun _ _ => ⟨q1, q2, (hO.int hi).2, fun _ => (hO.int hi).1⟩, dAB := h.dAB, pD1 := h.pD1, pD2 := h.pD2, pA := h.pA, pB := fun _ => rfl, oA := h.oA, oB := fun _ => e8, oD1 := fun _ => e10, oD2 := h.oD2, o15 := fun e => Bool.noConfusion (hn.symm.trans e), fin := fun e => Bool.noConfusion (hn.symm.trans e), p6 := h.p6, o16 := h.o16 }⟩
theorem call15 (h : QuoI gz gx gy xa xb ya yb PP QQ w0 W b1 b6 b7 b8 b10 b14 b15 b16 gA gB v8 v13 v14 v15 v17 v21 v22 v6) (HS : (∀ W gA gB, Below w0.heap.size w0 W → ZAt W gA 0 (xa * yb) → ZAt W gB 0 (xb * ya) → Calls Tryz.prog 92 #[.pointer (some ⟨gz, 0, none⟩), .pointer (some ⟨gA, 0, none⟩), .pointer (some ⟨gB, 0, none⟩)] W fun e w' => e = .returned (.pointer (some ⟨gz, 0, none⟩)) ∧ RatAt w' gz PP QQ ∧ Tch [gz] W w')) (hb : b15 = false) (e7 : b7 = true) (e14 : b14 = true) (eD1 : b10 = true) (eD2 : b6 = true) :
    v14 = ptr gA 0 ∧ v21 = ptr gB 0 ∧ Calls Tryz.prog 92 #[.pointer (some ⟨gz, 0, none⟩), .pointer (some ⟨gA, 0, none⟩), .pointer (some ⟨gB, 0, none⟩)] W fun e W2 => e = .returned (.pointer (some ⟨gz, 0, none⟩)) ∧ QuoI gz gx gy xa xb ya yb PP QQ w0 W2 b1 b6 b7 b8 b10 b14 true b16 gA gB v8 v13 v14 v15 v17 v21 (ptr gz 0) v6 := by
  obtain ⟨_, _, _, zA⟩ := h.boxA hb (h.oA e7)
  obtain ⟨_, _, _, zB⟩ := h.boxB hb (h.oB e14)
  refine ⟨h.pA e7, h.pB e14, (HS W gA gB (h.below hb) (zA e7) (zB e14)).mono ?_⟩
  rintro e W2 ⟨rfl, hR, ht⟩
  exact ⟨rfl, { below := fun e => Bool.noConfusion e, boxA := fun e => Bool.noConfusion e, boxB := fun e => Bool.noConfusion e, dAB := h.dAB, pD1 := h.pD1, pD2 := h.pD2, pA := h.pA, pB := h.pB, oA := h.oA, oB := h.oB, oD1 := h.oD1, oD2 := h.oD2, o15 := fun _ => ⟨h.oA e7, eD2, e7, h.oB e14, eD1, e14⟩, fin := fun _ => ⟨rfl, hR, (Tch.of (h.below hb)).trans ht⟩, p6 := h.p6, o16 := fun _ => rfl }⟩
end QuoI
set_option maxHeartbeats 16000000 in
set_option maxRecDepth 100000 in
theorem rquo_z (gz gx gy : Nat) (xa xb ya yb PP QQ : Int) (w0 : World) (hx : RatAt w0 gx xa xb) (hy : RatAt w0 gy ya yb) (hbd : BdQuo xa xb ya yb) (hS : (∀ W gA gB, Below w0.heap.size w0 W → ZAt W gA 0 (xa * yb) → ZAt W gB 0 (xb * ya) → Calls Tryz.prog 92 #[.pointer (some ⟨gz, 0, none⟩), .pointer (some ⟨gA, 0, none⟩), .pointer (some ⟨gB, 0, none⟩)] W fun e w' => e = .returned (.pointer (some ⟨gz, 0, none⟩)) ∧ RatAt w' gz PP QQ ∧ Tch [gz] W w')) :
    Calls Tryz.prog 51 #[.pointer (some ⟨gz, 0, none⟩), .pointer (some ⟨gx, 0, none⟩), .pointer (some ⟨gy, 0, none⟩)] w0 fun e w' => e = .returned (.pointer (some ⟨gz, 0, none⟩)) ∧ RatAt w' gz PP QQ ∧ Tch [gz] w0 w' := by
  have HX := Hid.mk hx
  have HY := Hid.mk hy
  have HBD := Hid.mk hbd
  have HS := Hid.mk hS
  clear hx hy hbd hS
  go_enter Tryz.func51, Tryz.ntmps51
  go_wp2_with fail
  refine wp_region_any (by kernel_rfl) ?_
  refine wpAny_take (i := 0) (v := .pointer (some ⟨gz, 0, none⟩)) rfl (by kernel_rfl) (by kernel_rfl) (by kernel_rfl) (fun _ _ _ h => h) (Or.inl ⟨by rfl, fun _ => by rfl⟩) ?_
  simp only [List.getElem_toArray, List.getElem_cons_zero, Act.put, List.setIfInBounds_toArray, List.set_cons_zero, List.set_cons_succ]
  refine wpAny_take (i := 2) (v := .pointer (some ⟨gx, 0, none⟩)) rfl (by kernel_rfl) (by kernel_rfl) (by kernel_rfl) (fun _ _ _ h => h) (Or.inl ⟨by rfl, fun _ => by rfl⟩) ?_
  simp only [List.getElem_toArray, List.getElem_cons_zero, List.getElem_cons_succ, Act.put, List.setIfInBounds_toArray, List.set_cons_zero, List.set_cons_succ]
  refine wpAny_take (i := 3) (v := .pointer (some ⟨gx, 0, none⟩)) rfl (by kernel_rfl) (by kernel_rfl) (by kernel_rfl) (fun _ _ _ h => h) (Or.inl ⟨by rfl, fun _ => by rfl⟩) ?_
  simp only [List.getElem_toArray, List.getElem_cons_zero, List.getElem_cons_succ, Act.put, List.setIfInBounds_toArray, List.set_cons_zero, List.set_cons_succ]
  refine wpAny_take (i := 4) (v := .pointer (some ⟨gx, 0, none⟩)) rfl (by kernel_rfl) (by kernel_rfl) (by kernel_rfl) (fun _ _ _ h => h) (Or.inl ⟨by rfl, fun _ => by rfl⟩) ?_
  simp only [List.getElem_toArray, List.getElem_cons_zero, List.getElem_cons_succ, Act.put, List.setIfInBounds_toArray, List.set_cons_zero, List.set_cons_succ]
  refine wpAny_take (i := 5) (v := .pointer (some ⟨gy, 0, none⟩)) rfl (by kernel_rfl) (by kernel_rfl) (by kernel_rfl) (fun _ _ _ h => h) (Or.inl ⟨by rfl, fun _ => by rfl⟩) ?_
  simp only [List.getElem_toArray, List.getElem_cons_zero, List.getElem_cons_succ, Act.put, List.setIfInBounds_toArray, List.set_cons_zero, List.set_cons_succ]
  refine wpAny_take (i := 9) (v := .pointer (some ⟨gx, 0, none⟩)) rfl (by kernel_rfl) (by kernel_rfl) (by kernel_rfl) (fun _ _ _ h => h) (Or.inl ⟨by rfl, fun _ => by rfl⟩) ?_
  simp only [List.getElem_toArray, List.getElem_cons_zero, List.getElem_cons_succ, Act.put, List.setIfInBounds_toArray, List.set_cons_zero, List.set_cons_succ]
  refine wpAny_take (i := 11) (v := .pointer (some ⟨gy, 0, none⟩)) rfl (by kernel_rfl) (by kernel_rfl) (by kernel_rfl) (fun _ _ _ h => h) (Or.inl ⟨by rfl, fun _ => by rfl⟩) ?_
  simp only [List.getElem_toArray, List.getElem_cons_zero, List.getElem_cons_succ, Act.put, List.setIfInBounds_toArray, List.set_cons_zero, List.set_cons_succ]
  refine wpAny_take (i := 12) (v := .pointer (some ⟨gy, 0, none⟩)) rfl (by kernel_rfl) (by kernel_rfl) (by kernel_rfl) (fun _ _ _ h => h) (Or.inl ⟨by rfl, fun _ => by rfl⟩) ?_
  simp only [List.getElem_toArray, List.getElem_cons_zero, List.getElem_cons_succ, Act.put, List.setIfInBounds_toArray, List.set_cons_zero, List.set_cons_succ]
  refine wpAny_take (i := 13) (v := .pointer (some ⟨gy, 0, none⟩)) rfl (by kernel_rfl) (by kernel_rfl) (by kernel_rfl) (fun _ _ _ h => h) (Or.inl ⟨by rfl, fun _ => by rfl⟩) ?_
  simp only [List.getElem_toArray, List.getElem_cons_zero, List.getElem_cons_succ, Act.put, List.setIfInBounds_toArray, List.set_cons_zero, List.set_cons_succ]
  refine Oi.wpAny_start (fun l a W => ∃ b1 b6 b7 b8 b10 b14 b15 b16 gA gB v8 v13 v14 v15 v17 v21 v22 v6, l = #[true, b1, true, true, true, true, b6, b7, b8, true, b10, true, true, true, b14, b15, b16] ∧ a = ⟨#[.pointer (some ⟨gz, 0, none⟩), .pointer (some ⟨gx, 0, none⟩), .pointer (some ⟨gy, 0, none⟩), undef, undef, undef, v6, .pointer (some ⟨gz, 0, none⟩), v8, .pointer (some ⟨gx, 0, none⟩), .pointer (some ⟨gx, 0, none⟩), .pointer (some ⟨gx, 0, none⟩), .pointer (some ⟨gy, 0, none⟩), v13, v14, v15, .pointer (some ⟨gx, 0, none⟩), v17, .pointer (some ⟨gy, 0, none⟩), .pointer (some ⟨gy, 0, none⟩), .pointer (some ⟨gy, 0, none⟩), v21, v22], []⟩ ∧ QuoI gz gx gy xa xb ya yb PP QQ w0 W b1 b6 b7 b8 b10 b14 b15 b16 gA gB v8 v13 v14 v15 v17 v21 v22 v6) #[true, false, true, true, true, true, false, false, false, true, false, true, true, true, false, false, false] (by kernel_rfl) (by kernel_rfl) ⟨false, false, false, false, false, false, false, false, 0, 0, undef, undef, undef, undef, undef, undef, undef, .pointer none, rfl, rfl, ?_⟩ ?_ ?_
  · exact { below := fun _ => ⟨rfl, rfl, rfl, Nat.le_refl _, fun _ _ => rfl⟩, boxA := fun _ e => Bool.noConfusion e, boxB := fun _ e => Bool.noConfusion e, dAB := fun e => Bool.noConfusion e, pD1 := fun e => Bool.noConfusion e, pD2 := fun e => Bool.noConfusion e, pA := fun e => Bool.noConfusion e, pB := fun e => Bool.noConfusion e, oA := fun e => Bool.noConfusion e, oB := fun e => Bool.noConfusion e, oD1 := fun e => Bool.noConfusion e, oD2 := fun e => Bool.noConfusion e, o15 := fun e => Bool.noConfusion e, fin := fun e => Bool.noConfusion e, p6 := fun e => Bool.noConfusion e, o16 := fun e => Bool.noConfusion e }
  rotate_left
  · rintro l a W i o ⟨b1, b6, b7, b8, b10, b14, b15, b16, gA, gB, v8, v13, v14, v15, v17, v21, v22, v6, rfl, rfl, hI⟩ h0 ho hall K hK
    have hi : i < 17 := (Array.getElem?_eq_some_iff.1 ho).1
    have hii : i = 0 ∨ i = 1 ∨ i = 2 ∨ i = 3 ∨ i = 4 ∨ i = 5 ∨ i = 6 ∨ i = 7 ∨ i = 8 ∨ i = 9 ∨ i = 10 ∨ i = 11 ∨ i = 12 ∨ i = 13 ∨ i = 14 ∨ i = 15 ∨ i = 16 := by omega
    clear hi
    rcases hii with rfl | rfl | rfl | rfl | rfl | rfl | rfl | rfl | rfl | rfl | rfl | rfl | rfl | rfl | rfl | rfl | rfl
    · exact Bool.noConfusion h0
    · simp only [List.getElem?_toArray, List.getElem?_cons_zero, List.getElem?_cons_succ, Option.some.injEq] at ho
      subst ho
      have HN := Hid.mk (hI.new1 h0)
      clear hall h0
      go_simp
      exact hK.out _ _ ⟨_, _, _, _, _, _, _, _, _, _, _, _, _, _, _, _, _, _, rfl, rfl, HN.out⟩
    · exact Bool.noConfusion h0
    · exact Bool.noConfusion h0
    · exact Bool.noConfusion h0
    · exact Bool.noConfusion h0
    · simp only [List.getElem?_toArray, List.getElem?_cons_zero, List.getElem?_cons_succ, Option.some.injEq] at ho
      subst ho
      have HN := Hid.mk (hI.den6 h0)
      have HC := Hid.mk (den_z gy ya yb W (HY.out.kept (hI.below (hI.not6 h0))) (by have := HBD.out.y3; omega))
      clear hall h0 hI
      go_simp
      go_wp2_with fail
      with_reducible refine HC.out.mono ?_
      rintro e W2 ⟨rfl, hw2⟩
      obtain rfl := hw2.symm
      go_wp2_with fail
      exact hK.out _ _ ⟨_, _, _, _, _, _, _, _, _, _, _, _, _, _, _, _, _, _, rfl, rfl, HN.out⟩
    · simp only [List.getElem?_toArray, List.getElem?_cons_zero, List.getElem?_cons_succ, Option.some.injEq] at ho
      subst ho
      have e1 : b1 = true := hall ⟨1, .data⟩ (by simp) rfl
      have e6 : b6 = true := hall ⟨6, .data⟩ (by simp) rfl
      obtain ⟨hv1, hv2, hv3, hC⟩ := hI.call7 HX.out HY.out HBD.out h0 e1 e6
      unfold ptr at hv1 hv3
      have HC := Hid.mk hC
      subst hv1 hv3
      clear hC hall h0 hI
      go_simp
      go_wp2_with fail
      with_reducible refine HC.out.mono ?_
      rintro e W2 ⟨rfl, hI2⟩
      have HI2 := Hid.mk hI2
      clear hI2
      go_wp2_with fail
      exact hK.out _ _ ⟨_, _, _, _, _, _, _, _, _, _, _, _, _, _, _, _, _, _, rfl, rfl, HI2.out⟩
    · simp only [List.getElem?_toArray, List.getElem?_cons_zero, List.getElem?_cons_succ, Option.some.injEq] at ho
      subst ho
      have HN := Hid.mk (hI.new8 h0)
      clear hall h0
      go_simp
      exact hK.out _ _ ⟨_, _, _, _, _, _, _, _, _, _, _, _, _, _, _, _, _, _, rfl, rfl, HN.out⟩
    · exact Bool.noConfusion h0
    · simp only [List.getElem?_toArray, List.getElem?_cons_zero, List.getElem?_cons_succ, Option.some.injEq] at ho
      subst ho
      have HN := Hid.mk (hI.den10 h0)
      have HC := Hid.mk (den_z gx xa xb W (HX.out.kept (hI.below (hI.not10 h0))) (by have := HBD.out.x3; omega))
      clear hall h0 hI
      go_simp
      go_wp2_with fail
      with_reducible refine HC.out.mono ?_
      rintro e W2 ⟨rfl, hw2⟩
      obtain rfl := hw2.symm
      go_wp2_with fail
      exact hK.out _ _ ⟨_, _, _, _, _, _, _, _, _, _, _, _, _, _, _, _, _, _, rfl, rfl, HN.out⟩
    · exact Bool.noConfusion h0
    · exact Bool.noConfusion h0
    · exact Bool.noConfusion h0
    · simp only [List.getElem?_toArray, List.getElem?_cons_zero, List.getElem?_cons_succ, Option.some.injEq] at ho
      subst ho
      have e8 : b8 = true := hall ⟨8, .data⟩ (by simp) rfl
      have e10 : b10 = true := hall ⟨10, .data⟩ (by simp) rfl
      obtain ⟨hv1, hv2, hv3, hC⟩ := hI.call14 HX.out HY.out HBD.out h0 e8 e10
      unfold ptr at hv1 hv2
      have HC := Hid.mk hC
      subst hv1 hv2
      clear hC hall h0 hI
      go_simp
      go_wp2_with fail
      with_reducible refine HC.out.mono ?_
      rintro e W2 ⟨rfl, hI2⟩
      have HI2 := Hid.mk hI2
      clear hI2
      go_wp2_with fail
      exact hK.out _ _ ⟨_, _, _, _, _, _, _, _, _, _, _, _, _, _, _, _, _, _, rfl, rfl, HI2.out⟩
    · simp only [List.getElem?_toArray, List.getElem?_cons_zero, List.getElem?_cons_succ, Option.some.injEq] at ho
      subst ho
      have e7 : b7 = true := hall ⟨7, .data⟩ (by simp) rfl
      have e14 : b14 = true := hall ⟨14, .data⟩ (by simp) rfl
      obtain ⟨hv1, hv2, hC⟩ := hI.call15 HS.out h0 e7 e14 (hI.oD1 e14) (hI.oD2 e7)
      unfold ptr at hv1 hv2
      have HC := Hid.mk hC
      subst hv1 hv2
      clear hC hall h0 hI
      go_simp
      go_wp2_with fail
      with_reducible refine HC.out.mono ?_
      rintro e W2 ⟨rfl, hI2⟩
      have HI2 := Hid.mk hI2
      clear hI2
      go_wp2_with fail
      exact hK.out _ _ ⟨_, _, _, _, _, _, _, _, _, _, _, _, _, _, _, _, _, _, rfl, rfl, HI2.out⟩
    · simp only [List.getElem?_toArray, List.getElem?_cons_zero, List.getElem?_cons_succ, Option.some.injEq] at ho
      subst ho
      have e15 : b15 = true := hall ⟨15, .data⟩ (by simp) rfl
      have HN := Hid.mk (hI.set16 e15)
      clear hall h0 hI
      go_simp
      exact hK.out _ _ ⟨_, _, _, _, _, _, _, _, _, _, _, _, _, _, _, _, _, _, rfl, rfl, HN.out⟩
  rintro l a W ⟨b1, b6, b7, b8, b10, b14, b15, b16, gA, gB, v8, v13, v14, v15, v17, v21, v22, v6, rfl, rfl, hI⟩ hr
  cases b1 with
  | false => exact (Oi.ready_nil (i := 1) hr rfl rfl (by intro e he _; simp at he; try (first | (rcases he with rfl | rfl | rfl | rfl | rfl | rfl | rfl | rfl | rfl | rfl | rfl | rfl | rfl | rfl | rfl | rfl | rfl | rfl <;> rfl) | (rcases he with rfl | rfl | rfl | rfl | rfl | rfl <;> rfl) | (rcases he with rfl | rfl | rfl | rfl | rfl <;> rfl) | (rcases he with rfl | rfl | rfl | rfl <;> rfl) | (rcases he with rfl | rfl | rfl <;> rfl) | (rcases he with rfl | rfl <;> rfl) | (rcases he with rfl; rfl)))).elim
  | true =>
  cases b6 with
  | false => exact (Oi.ready_nil (i := 6) hr rfl rfl (by intro e he _; simp at he; try (first | (rcases he with rfl | rfl | rfl | rfl | rfl | rfl | rfl | rfl | rfl | rfl | rfl | rfl | rfl | rfl | rfl | rfl | rfl | rfl <;> rfl) | (rcases he with rfl | rfl | rfl | rfl | rfl | rfl <;> rfl) | (rcases he with rfl | rfl | rfl | rfl | rfl <;> rfl) | (rcases he with rfl | rfl | rfl | rfl <;> rfl) | (rcases he with rfl | rfl | rfl <;> rfl) | (rcases he with rfl | rfl <;> rfl) | (rcases he with rfl; rfl)))).elim
  | true =>
  cases b7 with
  | false => exact (Oi.ready_nil (i := 7) hr rfl rfl (by intro e he _; simp at he; try (first | (rcases he with rfl | rfl | rfl | rfl | rfl | rfl | rfl | rfl | rfl | rfl | rfl | rfl | rfl | rfl | rfl | rfl | rfl | rfl <;> rfl) | (rcases he with rfl | rfl | rfl | rfl | rfl | rfl <;> rfl) | (rcases he with rfl | rfl | rfl | rfl | rfl <;> rfl) | (rcases he with rfl | rfl | rfl | rfl <;> rfl) | (rcases he with rfl | rfl | rfl <;> rfl) | (rcases he with rfl | rfl <;> rfl) | (rcases he with rfl; rfl)))).elim
  | true =>
  cases b8 with
  | false => exact (Oi.ready_nil (i := 8) hr rfl rfl (by intro e he _; simp at he; try (first | (rcases he with rfl | rfl | rfl | rfl | rfl | rfl | rfl | rfl | rfl | rfl | rfl | rfl | rfl | rfl | rfl | rfl | rfl | rfl <;> rfl) | (rcases he with rfl | rfl | rfl | rfl | rfl | rfl <;> rfl) | (rcases he with rfl | rfl | rfl | rfl | rfl <;> rfl) | (rcases he with rfl | rfl | rfl | rfl <;> rfl) | (rcases he with rfl | rfl | rfl <;> rfl) | (rcases he with rfl | rfl <;> rfl) | (rcases he with rfl; rfl)))).elim
  | true =>
  cases b10 with
  | false => exact (Oi.ready_nil (i := 10) hr rfl rfl (by intro e he _; simp at he; try (first | (rcases he with rfl | rfl | rfl | rfl | rfl | rfl | rfl | rfl | rfl | rfl | rfl | rfl | rfl | rfl | rfl | rfl | rfl | rfl <;> rfl) | (rcases he with rfl | rfl | rfl | rfl | rfl | rfl <;> rfl) | (rcases he with rfl | rfl | rfl | rfl | rfl <;> rfl) | (rcases he with rfl | rfl | rfl | rfl <;> rfl) | (rcases he with rfl | rfl | rfl <;> rfl) | (rcases he with rfl | rfl <;> rfl) | (rcases he with rfl; rfl)))).elim
  | true =>
  cases b14 with
  | false => exact (Oi.ready_nil (i := 14) hr rfl rfl (by intro e he _; simp at he; try (first | (rcases he with rfl | rfl | rfl | rfl | rfl | rfl | rfl | rfl | rfl | rfl | rfl | rfl | rfl | rfl | rfl | rfl | rfl | rfl <;> rfl) | (rcases he with rfl | rfl | rfl | rfl | rfl | rfl <;> rfl) | (rcases he with rfl | rfl | rfl | rfl | rfl <;> rfl) | (rcases he with rfl | rfl | rfl | rfl <;> rfl) | (rcases he with rfl | rfl | rfl <;> rfl) | (rcases he with rfl | rfl <;> rfl) | (rcases he with rfl; rfl)))).elim
  | true =>
  cases b15 with
  | false => exact (Oi.ready_nil (i := 15) hr rfl rfl (by intro e he _; simp at he; try (first | (rcases he with rfl | rfl | rfl | rfl | rfl | rfl | rfl | rfl | rfl | rfl | rfl | rfl | rfl | rfl | rfl | rfl | rfl | rfl <;> rfl) | (rcases he with rfl | rfl | rfl | rfl | rfl | rfl <;> rfl) | (rcases he with rfl | rfl | rfl | rfl | rfl <;> rfl) | (rcases he with rfl | rfl | rfl | rfl <;> rfl) | (rcases he with rfl | rfl | rfl <;> rfl) | (rcases he with rfl | rfl <;> rfl) | (rcases he with rfl; rfl)))).elim
  | true =>
  cases b16 with
  | false => exact (Oi.ready_nil (i := 16) hr rfl rfl (by intro e he _; simp at he; try (first | (rcases he with rfl | rfl | rfl | rfl | rfl | rfl | rfl | rfl | rfl | rfl | rfl | rfl | rfl | rfl | rfl | rfl | rfl | rfl <;> rfl) | (rcases he with rfl | rfl | rfl | rfl | rfl | rfl <;> rfl) | (rcases he with rfl | rfl | rfl | rfl | rfl <;> rfl) | (rcases he with rfl | rfl | rfl | rfl <;> rfl) | (rcases he with rfl | rfl | rfl <;> rfl) | (rcases he with rfl | rfl <;> rfl) | (rcases he with rfl; rfl)))).elim
  | true =>
  clear hr
  have hp6 := hI.p6 rfl
  unfold ptr at hp6
  subst hp6
  obtain ⟨-, hR, ht⟩ := hI.fin rfl
  have HR := Hid.mk hR
  have HT := Hid.mk ht
  clear hI hR ht
  go_wp2_with fail
  go_ret
  exact ⟨rfl, HR.out, HT.out⟩
end Ww
end Go.Proofs.YtjgliinpaadbnaaGreatDoor
namespace Go.Proofs.YtjgliinpaadbnaaGreatDoor
open Go.ChangeShapes Go.WideShapes Go.ChangeAt Go.RowKit Go.Sort
namespace Ww
open Wm
open Bw (Tch bl2 cell_kept)
theorem neg_flag (r : Int) : -r ≠ 0 → (!decide (r < 0)) = decide (-r < 0) := by
  intro h
  by_cases h1 : r < 0
  · rw [decide_eq_true h1, decide_eq_false (by omega)]; rfl
  · rw [decide_eq_false h1, decide_eq_true (by omega)]; rfl
set_option maxHeartbeats 8000000 in
set_option maxRecDepth 100000 in
theorem ineg_z (gz oz : Nat) (cs : List Value) (T : TypeId) (gx ox : Nat) (r : Int) (w : World) (hx : ZAt w gx ox r) (hB : BlkAt w gz cs T) (hn : NoW cs) (hz0 : ∃ b, cs[oz]? = some (.bool b)) (hz1 : ∃ a l c, cs[oz + 1]? = some (.slice a l c)) (hr1 : -4611686018427387903 ≤ r) (hr2 : r ≤ 4611686018427387903) :
    Calls Tryz.prog 56 #[.pointer (some ⟨gz, oz, none⟩), .pointer (some ⟨gx, ox, none⟩)] w fun e w' => e = .returned (.pointer (some ⟨gz, oz, none⟩)) ∧ OutZ w w' gz oz cs T (-r) := by
  obtain ⟨va, xs, h1, h2, h3, h4, h5⟩ := hx
  have hl := len_two h4 (show valW xs < 2 ^ 62 by omega)
  have hB' : BlkAt w.drew gz cs T := hB
  have HTW := Hid.mk (twin_any va xs w.drew h3 (by omega))
  have HGV := Hid.mk (fun v' W (hb : Below w.drew.heap.size w.drew W) (hW : IsW W v' xs) => give_z gz oz cs T (!decide (r < 0)) v' xs (-r) W (hB'.kept hb) hn hz0 hz1 hW h4 (by rw [h5, Int.natAbs_neg]) (neg_flag r))
  obtain ⟨a, l, c, rfl⟩ := h3.sliceB
  have d1 : w.drew.cell? ⟨gx, ox, none⟩ = some (.bool (decide (r < 0))) := h1
  have d2 : w.drew.cell? ⟨gx, ox + 1, none⟩ = some (.slice a l c) := h2
  generalize decide (r < 0) = R at *
  clear h1 h2 h3 h4 h5 hl hB hB' hr1 hr2 hn hz0 hz1
  go_enter Tryz.func56, Tryz.ntmps56
  go_wp2_with fail
  go_region_with (first
    | (go_at_call 102; with_reducible refine HTW.out.mono ?_; rintro e w1 ⟨v', rfl, hW1, hb1⟩
       have d3 := cell_kept hb1 d1
       have HG := Hid.mk (HGV.out v' w1 hb1 hW1)
       have HB1 := Hid.mk hb1
       clear hW1 hb1)
    | (go_at_call 97; with_reducible refine HG.out.mono ?_; rintro e w2 ⟨rfl, hO⟩
       have HO := Hid.mk hO
       clear hO))
  all_goals
    go_wp2_with fail
    go_ret
    exact ⟨rfl, HO.out.pre (bl2 (drBw1 w) HB1.out)⟩
end Ww
end Go.Proofs.YtjgliinpaadbnaaGreatDoor
namespace Go.Proofs.YtjgliinpaadbnaaGreatDoor
open Go.ChangeShapes Go.WideShapes Go.ChangeAt Go.RowKit Go.Sort
namespace Ww
open Wm Sm
open Bw (Tch bl2 cell_kept)
set_option linter.unusedVariables false
theorem neg_num (g : Nat) (p q : Int) (w : World) (h : RatAt w g p q) (h1 : -4611686018427387903 ≤ p) (h2 : p ≤ 4611686018427387903) :
    Calls Tryz.prog 56 #[.pointer (some ⟨g, 0, none⟩), .pointer (some ⟨g, 0, none⟩)] w fun e w' => e = .returned (.pointer (some ⟨g, 0, none⟩)) ∧ RatAt w' g (-p) q ∧ Tch [g] w w' := by
  have hz := h.num
  obtain ⟨va, xs, vb, ys, hB, ⟨x1, x2, x3⟩, y1, y2, y3⟩ := h
  obtain ⟨la, na, ca, rfl⟩ := x1.sliceB
  obtain ⟨lb, nb, cb, rfl⟩ := y1.sliceB
  refine (ineg_z g 0 _ _ g 0 p w hz hB (RatV.noW ⟨_, _, _, _, _, _, _, _, rfl⟩) ⟨_, rfl⟩ ⟨_, _, _, rfl⟩ h1 h2).mono ?_
  rintro e w' ⟨rfl, ht, v1, zs, k1, k2, k3, k4⟩
  exact ⟨rfl, ⟨v1, zs, _, ys, k4, ⟨k1, k2, k3⟩, y1.tch hB (RatV.noW ⟨_, _, _, _, _, _, _, _, rfl⟩) ht, y2, y3⟩, ht⟩
theorem neg_den (g : Nat) (p q : Int) (w : World) (h : RatAt w g p q) (h1 : -4611686018427387903 ≤ q) (h2 : q ≤ 4611686018427387903) :
    Calls Tryz.prog 56 #[.pointer (some ⟨g, 2, none⟩), .pointer (some ⟨g, 2, none⟩)] w fun e w' => e = .returned (.pointer (some ⟨g, 2, none⟩)) ∧ RatAt w' g p (-q) ∧ Tch [g] w w' := by
  have hz := h.den
  obtain ⟨va, xs, vb, ys, hB, ⟨x1, x2, x3⟩, y1, y2, y3⟩ := h
  obtain ⟨la, na, ca, rfl⟩ := x1.sliceB
  obtain ⟨lb, nb, cb, rfl⟩ := y1.sliceB
  refine (ineg_z g 2 _ _ g 2 q w hz hB (RatV.noW ⟨_, _, _, _, _, _, _, _, rfl⟩) ⟨_, rfl⟩ ⟨_, _, _, rfl⟩ h1 h2).mono ?_
  rintro e w' ⟨rfl, ht, v1, zs, k1, k2, k3, k4⟩
  exact ⟨rfl, ⟨_, xs, v1, zs, k4, ⟨x1.tch hB (RatV.noW ⟨_, _, _, _, _, _, _, _, rfl⟩) ht, x2, x3⟩, k1, k2, k3⟩, ht⟩
set_option maxHeartbeats 16000000 in
set_option maxRecDepth 100000 in
theorem normN_0 (g : Nat) (p q : Int) (w0 : World) (h : RatAt w0 g (-p) (-q)) (hq : 0 < q) (hp1 : -4611686018427387903 ≤ p) (hp2 : p ≤ 4611686018427387903) (hq2 : q ≤ 4611686018427387903) (hp : p = 0) :
    Calls Tryz.prog 142 #[.pointer (some ⟨g, 0, none⟩)] w0 fun e w' => e = .returned (.pointer (some ⟨g, 0, none⟩)) ∧ RatAt w' g (numL p q) (denL p q) ∧ Tch [g] w0 w' := by
  subst hp
  have HNA := Hid.mk (neg_num g (-0) (-q) w0.drew (h.kept (drBw1 w0)) (by omega) (by omega))
  have HNB := Hid.mk (fun W (hW : RatAt W g (- -0) (-q)) => neg_den g (- -0) (-q) W hW (by omega) (by omega))
  obtain ⟨va, xs, vb, ys, hB, ⟨x1, x2, x3⟩, y1, y2, y3⟩ := h
  obtain ⟨la0, na0, ca0, rfl⟩ := x1.sliceB
  obtain ⟨lb0, nb0, cb0, rfl⟩ := y1.sliceB
  have hqn : decide (-q < 0) = true := decide_eq_true (by omega)
  rw [hqn] at hB
  have c0 := hB.cell (i := 0) rfl
  have c1 := hB.cell (i := 1) rfl
  have c2 := hB.cell (i := 2) rfl
  have c3 := hB.cell (i := 3) rfl
  have hnb := len_pos y1 (by rw [y3]; omega)
  have hnb0 : ((nb0 : Int) == 0) = false := by simp; omega
  clear hB x1 x2 x3 y1 y2 y3 hnb hqn
  go_enter Tryz.func142, Tryz.ntmps142
  go_wp2_with fail
  go_region_with ((go_at_call 56; with_reducible refine HNA.out.mono ?_; rintro e w1 ⟨rfl, hR1, ht1⟩; have HR1 := Hid.mk hR1; have HT1 := Hid.mk ((Tch.of (drBw1 w0)).trans ht1); clear hR1 ht1))
  clear HNA c0 c1 c2 c3 hnb0
  go_wp2_with fail
  have HNC := Hid.mk (HNB.out w1.drew (HR1.out.kept (drBw1 w1)))
  clear HNB
  go_region_with ((go_at_call 56; with_reducible refine HNC.out.mono ?_; rintro e w ⟨rfl, hR2, ht2⟩; have HR2 := Hid.mk hR2; have HT0 := Hid.mk ((HT1.out.trans (Tch.of (drBw1 w1))).trans ht2); clear hR2 ht2))
  have h := HR2.out
  rw [Int.neg_neg, Int.neg_neg] at h
  clear HNC HR2 HR1 HT1
  have HLZ := Hid.mk (low_zero hq)
  obtain ⟨va, xs, vb, ys, hB, ⟨x1, x2, x3⟩, y1, y2, y3⟩ := h
  obtain ⟨la, na, ca, rfl⟩ := x1.sliceB
  obtain ⟨lb, nb, cb, rfl⟩ := y1.sliceB
  have hqn : decide (q < 0) = false := decide_eq_false (by omega)
  rw [hqn] at hB
  have c0 := hB.cell (i := 0) rfl
  have c1 := hB.cell (i := 1) rfl
  have c2 := hB.cell (i := 2) rfl
  have c3 := hB.cell (i := 3) rfl
  have hnb := len_pos y1 (by rw [y3]; omega)
  have hnb' : ((nb : Int) == 0) = false := by simp; omega
  have hna := len_zero x1 x2 (by rw [x3]; rfl)
  subst hna
  have HS := Hid.mk (setInt64_z g 2 _ _ 1 w hB (RatV.noW ⟨_, _, _, _, _, _, _, _, rfl⟩) ⟨_, rfl⟩ ⟨_, _, _, rfl⟩ (by omega) (by omega))
  have HX1 := Hid.mk x1
  have HX2 := Hid.mk x2
  have HX3 := Hid.mk x3
  have HB := Hid.mk hB
  clear x1 x2 x3 y1 y2 y3 hB hq hp1 hp2 hq2 hnb hqn
  simp only [Int.lt_irrefl, decide_false] at c0 HB HS
  go_wp2_with fail
  with_reducible refine HS.out.mono ?_
  rintro e w1 ⟨rfl, hO⟩
  have HO := Hid.mk hO
  clear hO
  go_wp2_with fail
  go_ret
  rw [HLZ.out.1, HLZ.out.2]
  refine ⟨rfl, ?_, HT0.out.trans HO.out.1⟩
  obtain ⟨ht, v1, zs, h1, h2, h3, h4⟩ := HO.out
  exact ⟨_, xs, v1, zs, h4, ⟨HX1.out.tch HB.out (RatV.noW ⟨_, _, _, _, _, _, _, _, rfl⟩) ht, HX2.out, HX3.out⟩, h1, h2, h3⟩
set_option maxHeartbeats 16000000 in
set_option maxRecDepth 100000 in
theorem normN_1 (g : Nat) (p q : Int) (w0 : World) (h : RatAt w0 g (-p) (-q)) (hq : 0 < q) (hp1 : -4611686018427387903 ≤ p) (hp2 : p ≤ 4611686018427387903) (hq2 : q ≤ 4611686018427387903) (hp : p ≠ 0) (hq1 : q = 1) :
    Calls Tryz.prog 142 #[.pointer (some ⟨g, 0, none⟩)] w0 fun e w' => e = .returned (.pointer (some ⟨g, 0, none⟩)) ∧ RatAt w' g (numL p q) (denL p q) ∧ Tch [g] w0 w' := by
  have HNA := Hid.mk (neg_num g (-p) (-q) w0.drew (h.kept (drBw1 w0)) (by omega) (by omega))
  have HNB := Hid.mk (fun W (hW : RatAt W g (- -p) (-q)) => neg_den g (- -p) (-q) W hW (by omega) (by omega))
  obtain ⟨va, xs, vb, ys, hB, ⟨x1, x2, x3⟩, y1, y2, y3⟩ := h
  obtain ⟨la0, na0, ca0, rfl⟩ := x1.sliceB
  obtain ⟨lb0, nb0, cb0, rfl⟩ := y1.sliceB
  have hqn : decide (-q < 0) = true := decide_eq_true (by omega)
  rw [hqn] at hB
  have c0 := hB.cell (i := 0) rfl
  have c1 := hB.cell (i := 1) rfl
  have c2 := hB.cell (i := 2) rfl
  have c3 := hB.cell (i := 3) rfl
  have hnb := len_pos y1 (by rw [y3]; omega)
  have hnb0 : ((nb0 : Int) == 0) = false := by simp; omega
  clear hB x1 x2 x3 y1 y2 y3 hnb hqn
  go_enter Tryz.func142, Tryz.ntmps142
  go_wp2_with fail
  go_region_with ((go_at_call 56; with_reducible refine HNA.out.mono ?_; rintro e w1 ⟨rfl, hR1, ht1⟩; have HR1 := Hid.mk hR1; have HT1 := Hid.mk ((Tch.of (drBw1 w0)).trans ht1); clear hR1 ht1))
  clear HNA c0 c1 c2 c3 hnb0
  go_wp2_with fail
  have HNC := Hid.mk (HNB.out w1.drew (HR1.out.kept (drBw1 w1)))
  clear HNB
  go_region_with ((go_at_call 56; with_reducible refine HNC.out.mono ?_; rintro e w ⟨rfl, hR2, ht2⟩; have HR2 := Hid.mk hR2; have HT0 := Hid.mk ((HT1.out.trans (Tch.of (drBw1 w1))).trans ht2); clear hR2 ht2))
  have h := HR2.out
  rw [Int.neg_neg, Int.neg_neg] at h
  clear HNC HR2 HR1 HT1
  have hlo := low_of_cop (a := p) (b := q) (by rw [hq1]; simp)
  have HLO := Hid.mk hlo
  have HR := Hid.mk h
  obtain ⟨va, xs, vb, ys, hB, ⟨x1, x2, x3⟩, y1, y2, y3⟩ := h
  obtain ⟨la, na, ca, rfl⟩ := x1.sliceB
  obtain ⟨lb, nb, cb, rfl⟩ := y1.sliceB
  have hqn : decide (q < 0) = false := decide_eq_false (by omega)
  rw [hqn] at hB
  have c0 := hB.cell (i := 0) rfl
  have c1 := hB.cell (i := 1) rfl
  have c2 := hB.cell (i := 2) rfl
  have c3 := hB.cell (i := 3) rfl
  have hnb := len_pos y1 (by rw [y3]; omega)
  have hnb' : ((nb : Int) == 0) = false := by simp; omega
  obtain ⟨pp, rfl, rfl, hcc⟩ := cell0 y1 (one_words y2 (by rw [y3, hq1]; rfl))
  have hna := len_pos x1 (by rw [x3]; omega)
  have hna' : ((na : Int) == 0) = false := by simp; omega
  clear x1 x2 x3 y1 y2 y3 hB hq hp1 hp2 hq2 hnb hqn hlo hp hna hq1
  go_wp2_with fail
  go_ret
  rw [HLO.out.1, HLO.out.2]
  exact ⟨rfl, HR.out, HT0.out⟩
set_option maxHeartbeats 16000000 in
set_option maxRecDepth 100000 in
theorem normN_2 (g : Nat) (p q : Int) (w0 : World) (h : RatAt w0 g (-p) (-q)) (hq : 0 < q) (hp1 : -4611686018427387903 ≤ p) (hp2 : p ≤ 4611686018427387903) (hq2 : q ≤ 4611686018427387903) (hp : p ≠ 0) (hq1 : q ≠ 1) :
    Calls Tryz.prog 142 #[.pointer (some ⟨g, 0, none⟩)] w0 fun e w' => e = .returned (.pointer (some ⟨g, 0, none⟩)) ∧ RatAt w' g (numL p q) (denL p q) ∧ Tch [g] w0 w' := by
  have HNA := Hid.mk (neg_num g (-p) (-q) w0.drew (h.kept (drBw1 w0)) (by omega) (by omega))
  have HNB := Hid.mk (fun W (hW : RatAt W g (- -p) (-q)) => neg_den g (- -p) (-q) W hW (by omega) (by omega))
  obtain ⟨va, xs, vb, ys, hB, ⟨x1, x2, x3⟩, y1, y2, y3⟩ := h
  obtain ⟨la0, na0, ca0, rfl⟩ := x1.sliceB
  obtain ⟨lb0, nb0, cb0, rfl⟩ := y1.sliceB
  have hqn : decide (-q < 0) = true := decide_eq_true (by omega)
  rw [hqn] at hB
  have c0 := hB.cell (i := 0) rfl
  have c1 := hB.cell (i := 1) rfl
  have c2 := hB.cell (i := 2) rfl
  have c3 := hB.cell (i := 3) rfl
  have hnb := len_pos y1 (by rw [y3]; omega)
  have hnb0 : ((nb0 : Int) == 0) = false := by simp; omega
  clear hB x1 x2 x3 y1 y2 y3 hnb hqn
  go_enter Tryz.func142, Tryz.ntmps142
  go_wp2_with fail
  go_region_with ((go_at_call 56; with_reducible refine HNA.out.mono ?_; rintro e w1 ⟨rfl, hR1, ht1⟩; have HR1 := Hid.mk hR1; have HT1 := Hid.mk ((Tch.of (drBw1 w0)).trans ht1); clear hR1 ht1))
  clear HNA c0 c1 c2 c3 hnb0
  go_wp2_with fail
  have HNC := Hid.mk (HNB.out w1.drew (HR1.out.kept (drBw1 w1)))
  clear HNB
  go_region_with ((go_at_call 56; with_reducible refine HNC.out.mono ?_; rintro e w ⟨rfl, hR2, ht2⟩; have HR2 := Hid.mk hR2; have HT0 := Hid.mk ((HT1.out.trans (Tch.of (drBw1 w1))).trans ht2); clear hR2 ht2))
  have h := HR2.out
  rw [Int.neg_neg, Int.neg_neg] at h
  clear HNC HR2 HR1 HT1
  have HR := Hid.mk h
  obtain ⟨va, xs, vb, ys, hB, ⟨x1, x2, x3⟩, y1, y2, y3⟩ := h
  obtain ⟨la, na, ca, rfl⟩ := x1.sliceB
  obtain ⟨lb, nb, cb, rfl⟩ := y1.sliceB
  have hqn : decide (q < 0) = false := decide_eq_false (by omega)
  rw [hqn] at hB
  have c0 := hB.cell (i := 0) rfl
  have c1 := hB.cell (i := 1) rfl
  have c2 := hB.cell (i := 2) rfl
  have c3 := hB.cell (i := 3) rfl
  have hnb := len_pos y1 (by rw [y3]; omega)
  have hnb' : ((nb : Int) == 0) = false := by simp; omega
  have hna := len_pos x1 (by rw [x3]; omega)
  have hna' : ((na : Int) == 0) = false := by simp; omega
  have hxs : valW xs < 2 ^ 62 := by rw [x3]; omega
  have hys : valW ys < 2 ^ 62 := by rw [y3]; omega
  have hCM := common_any _ _ xs ys w.drew x1 y1 x2 y2 hxs hys (by rw [y3]; omega)
  rw [x3, y3, gcd_abs] at hCM
  have HCM := Hid.mk hCM
  have HG0 := Hid.mk (gcd_pos (n := p) hq)
  have hdvp : Int.gcd p q ≤ p.natAbs := Nat.gcd_le_left _ (by omega)
  have hdvq : Int.gcd p q ≤ q.natAbs := Nat.gcd_le_right _ (by omega)
  have HDP := Hid.mk (fun W vg zs (hb : Below w.heap.size w W) (hz : IsW W vg zs) (ht : trimW zs) (hv : valW zs = Int.gcd p q) => div_any _ vg xs zs W (x1.below hb) hz x2 ht hxs (by omega) (by rw [hv]; exact gcd_pos hq) (by rw [hv, x3]; exact hdvp))
  have HDQ := Hid.mk (fun W vg zs (hb : Below w.heap.size w W) (hz : IsW W vg zs) (ht : trimW zs) (hv : valW zs = Int.gcd p q) => div_any _ vg ys zs W (y1.below hb) hz y2 ht hys (by omega) (by rw [hv]; exact gcd_pos hq) (by rw [hv, y3]; exact hdvq))
  have HVP := Hid.mk x3
  have HVQ := Hid.mk y3
  have HB := Hid.mk hB
  have hd1 := numL_neg (p := p) hq
  have hd2 : decide (denL p q < 0) = false := decide_eq_false (by have := denL_pos (n := p) hq; omega)
  have HFIN := Hid.mk (fun (v1 v3 : Value) W (h : BlkAt W g [.bool (decide (p < 0)), v1, .bool false, v3] 87) => (show BlkAt W g [.bool (decide (numL p q < 0)), v1, .bool (decide (denL p q < 0)), v3] 87 by rw [hd1, hd2]; exact h))
  have hyn := not_one y1 (by rw [y3]; omega) (by rw [y3]; omega)
  have hS0 : w.drew.cell? ⟨g, 1, none⟩ = some (.slice la na ca) ∧ w.drew.cell? ⟨g, 3, none⟩ = some (.slice lb nb cb) := ⟨c1, c3⟩
  clear hCM hxs hys hdvq hd1 hd2 x1 y1 hna hnb hB
  rcases hyn with hn | ⟨pp, yw, rfl, rfl, hyw, -, hcy⟩
  · have hn' : ((nb : Int) == 1) = false := by simp; omega
    clear hn
    clear x2 x3 y2 y3 hq hp1 hp2 hq2 hqn hp hq1 hdvp
    go_wp2_with fail
    go_region_held3 (fun w' => w'.cell? ⟨g, 1, none⟩ = some (.slice la na ca) ∧ w'.cell? ⟨g, 3, none⟩ = some (.slice lb nb cb)) (first | exact hS0 | exact hS1) (first
      | (go_at_call 162; with_reducible refine HCM.out.mono ?_; rintro e w1 ⟨vg, zs, rfl, z1, z2, z3, z4, hb1⟩
         have hS1 : w1.cell? ⟨g, 1, none⟩ = some (.slice la na ca) ∧ w1.cell? ⟨g, 3, none⟩ = some (.slice lb nb cb) := ⟨cell_kept hb1 hS0.1, cell_kept hb1 hS0.2⟩
         have HZ1 := Hid.mk z1
         have HZ2 := Hid.mk z2
         have HZ3 := Hid.mk z3
         have HB1 := Hid.mk (bl2 (drBw1 w) hb1)
         clear z1 z2 z3 z4 hb1 HCM))
    obtain ⟨lg, ng, cg, rfl⟩ := HZ1.out.sliceB
    have e0 := cell_kept HB1.out c0
    have e1 := cell_kept HB1.out c1
    have e3 := cell_kept HB1.out c3
    by_cases hG : Int.gcd p q = 1
    · obtain ⟨pg, rfl, rfl, hcg⟩ := cell0 HZ1.out (one_words HZ3.out (by rw [HZ2.out]; exact hG))
      have HRr := Hid.mk (show RatAt w1 g (numL p q) (denL p q) by rw [(low_of_cop hG).1, (low_of_cop hG).2]; exact HR.out.kept HB1.out)
      clear hG HDP HDQ HFIN
      go_wp2_with fail
      go_ret
      exact ⟨rfl, HRr.out, HT0.out.trans (Tch.of HB1.out)⟩
    · have hg0 : 0 < Int.gcd p q := HG0.out
      have HD1 := Hid.mk (HDP.out w1 _ zs HB1.out HZ1.out HZ3.out HZ2.out)
      have HD2 := Hid.mk (fun W hb => HDQ.out W _ zs (bl2 HB1.out hb) (HZ1.out.below hb) HZ3.out HZ2.out)
      have hno := not_one HZ1.out (by rw [HZ2.out]; exact hg0) (by rw [HZ2.out]; exact hG)
      clear hG hg0 HDP HDQ
      rcases hno with hn1 | ⟨pg, zg, rfl, rfl, hzg, -, hcg⟩
      · have hn1' : ((ng : Int) == 1) = false := by simp; omega
        clear hn1
        go_wp2_with fail
        with_reducible refine HD1.out.mono ?_
        rintro e w2 ⟨v1, v2, us, rfl, u1, u2, u3, hb2⟩
        have HU1 := Hid.mk u1
        have HU2 := Hid.mk u2
        have HU3 := Hid.mk u3
        have HB2 := Hid.mk (bl2 HB1.out hb2)
        have HB12 := Hid.mk hb2
        have e5 := cell_kept hb2 e3
        clear u1 u2 u3 hb2 e0 e1 e3 HD1
        go_wp2_with fail
        with_reducible refine (HD2.out _ HB12.out).mono ?_
        rintro e w3 ⟨v3, v4, ts, rfl, t1, t2, t3, hb3⟩
        have HT1 := Hid.mk t1
        have HT2 := Hid.mk t2
        have HT3 := Hid.mk t3
        have HB3 := Hid.mk (bl2 HB2.out hb3)
        have HU1' := Hid.mk (HU1.out.below hb3)
        clear t1 t2 t3 hb3 e5 HD2
        obtain ⟨s1, m1, k1, rfl⟩ := HU1.out.sliceB
        obtain ⟨s3, m3, k3, rfl⟩ := HT1.out.sliceB
        have hK := HB.out.kept HB3.out
        have f1 := hK.cell (i := 1) rfl
        have g1 := hK.free 1
        have hK1 := hK.set 1 (.slice s1 m1 k1)
        have f3 := hK1.cell (i := 3) rfl
        have g3 := hK1.free 3
        have HK := Hid.mk hK
        have HK2 := Hid.mk (hK1.set 3 (.slice s3 m3 k3))
        clear hK hK1
        go_wp2_with fail
        go_ret
        have ht : Tch [g] w3 ((w3.setCell ⟨g, 1, none⟩ (.slice s1 m1 k1)).setCell ⟨g, 3, none⟩ (.slice s3 m3 k3)) := ((Tch.refl [g] w3).setK (by simp) _ _).setK (by simp) _ _
        exact ⟨rfl, ⟨_, us, _, ts, HFIN.out _ _ _ HK2.out, ⟨HU1'.out.tch HK.out (RatV.noW ⟨_, _, _, _, _, _, _, _, rfl⟩) ht, HU3.out, by rw [HU2.out, HZ2.out, HVP.out]; exact (numL_abs p q).symm⟩, HT1.out.tch HK.out (RatV.noW ⟨_, _, _, _, _, _, _, _, rfl⟩) ht, HT3.out, by rw [HT2.out, HZ2.out, HVQ.out]; exact (denL_abs p q).symm⟩, (HT0.out.trans (Tch.of HB3.out)).trans ht⟩
      · have hzg' : ((zg : Int) == 1) = false := by simp; omega
        clear hzg
        go_wp2_with fail
        with_reducible refine HD1.out.mono ?_
        rintro e w2 ⟨v1, v2, us, rfl, u1, u2, u3, hb2⟩
        have HU1 := Hid.mk u1
        have HU2 := Hid.mk u2
        have HU3 := Hid.mk u3
        have HB2 := Hid.mk (bl2 HB1.out hb2)
        have HB12 := Hid.mk hb2
        have e5 := cell_kept hb2 e3
        clear u1 u2 u3 hb2 e0 e1 e3 HD1
        go_wp2_with fail
        with_reducible refine (HD2.out _ HB12.out).mono ?_
        rintro e w3 ⟨v3, v4, ts, rfl, t1, t2, t3, hb3⟩
        have HT1 := Hid.mk t1
        have HT2 := Hid.mk t2
        have HT3 := Hid.mk t3
        have HB3 := Hid.mk (bl2 HB2.out hb3)
        have HU1' := Hid.mk (HU1.out.below hb3)
        clear t1 t2 t3 hb3 e5 HD2
        obtain ⟨s1, m1, k1, rfl⟩ := HU1.out.sliceB
        obtain ⟨s3, m3, k3, rfl⟩ := HT1.out.sliceB
        have hK := HB.out.kept HB3.out
        have f1 := hK.cell (i := 1) rfl
        have g1 := hK.free 1
        have hK1 := hK.set 1 (.slice s1 m1 k1)
        have f3 := hK1.cell (i := 3) rfl
        have g3 := hK1.free 3
        have HK := Hid.mk hK
        have HK2 := Hid.mk (hK1.set 3 (.slice s3 m3 k3))
        clear hK hK1
        go_wp2_with fail
        go_ret
        have ht : Tch [g] w3 ((w3.setCell ⟨g, 1, none⟩ (.slice s1 m1 k1)).setCell ⟨g, 3, none⟩ (.slice s3 m3 k3)) := ((Tch.refl [g] w3).setK (by simp) _ _).setK (by simp) _ _
        exact ⟨rfl, ⟨_, us, _, ts, HFIN.out _ _ _ HK2.out, ⟨HU1'.out.tch HK.out (RatV.noW ⟨_, _, _, _, _, _, _, _, rfl⟩) ht, HU3.out, by rw [HU2.out, HZ2.out, HVP.out]; exact (numL_abs p q).symm⟩, HT1.out.tch HK.out (RatV.noW ⟨_, _, _, _, _, _, _, _, rfl⟩) ht, HT3.out, by rw [HT2.out, HZ2.out, HVQ.out]; exact (denL_abs p q).symm⟩, (HT0.out.trans (Tch.of HB3.out)).trans ht⟩
  · have hyw' : ((yw : Int) == 1) = false := by simp; omega
    clear hyw
    clear x2 x3 y2 y3 hq hp1 hp2 hq2 hqn hp hq1 hdvp
    go_wp2_with fail
    go_region_held3 (fun w' => w'.cell? ⟨g, 1, none⟩ = some (.slice la na ca) ∧ w'.cell? ⟨g, 3, none⟩ = some (.slice (some pp) 1 cb)) (first | exact hS0 | exact hS1) (first
      | (go_at_call 162; with_reducible refine HCM.out.mono ?_; rintro e w1 ⟨vg, zs, rfl, z1, z2, z3, z4, hb1⟩
         have hS1 : w1.cell? ⟨g, 1, none⟩ = some (.slice la na ca) ∧ w1.cell? ⟨g, 3, none⟩ = some (.slice (some pp) 1 cb) := ⟨cell_kept hb1 hS0.1, cell_kept hb1 hS0.2⟩
         have HZ1 := Hid.mk z1
         have HZ2 := Hid.mk z2
         have HZ3 := Hid.mk z3
         have HB1 := Hid.mk (bl2 (drBw1 w) hb1)
         clear z1 z2 z3 z4 hb1 HCM))
    obtain ⟨lg, ng, cg, rfl⟩ := HZ1.out.sliceB
    have e0 := cell_kept HB1.out c0
    have e1 := cell_kept HB1.out c1
    have e3 := cell_kept HB1.out c3
    by_cases hG : Int.gcd p q = 1
    · obtain ⟨pg, rfl, rfl, hcg⟩ := cell0 HZ1.out (one_words HZ3.out (by rw [HZ2.out]; exact hG))
      have HRr := Hid.mk (show RatAt w1 g (numL p q) (denL p q) by rw [(low_of_cop hG).1, (low_of_cop hG).2]; exact HR.out.kept HB1.out)
      clear hG HDP HDQ HFIN
      go_wp2_with fail
      go_ret
      exact ⟨rfl, HRr.out, HT0.out.trans (Tch.of HB1.out)⟩
    · have hg0 : 0 < Int.gcd p q := HG0.out
      have HD1 := Hid.mk (HDP.out w1 _ zs HB1.out HZ1.out HZ3.out HZ2.out)
      have HD2 := Hid.mk (fun W hb => HDQ.out W _ zs (bl2 HB1.out hb) (HZ1.out.below hb) HZ3.out HZ2.out)
      have hno := not_one HZ1.out (by rw [HZ2.out]; exact hg0) (by rw [HZ2.out]; exact hG)
      clear hG hg0 HDP HDQ
      rcases hno with hn1 | ⟨pg, zg, rfl, rfl, hzg, -, hcg⟩
      · have hn1' : ((ng : Int) == 1) = false := by simp; omega
        clear hn1
        go_wp2_with fail
        with_reducible refine HD1.out.mono ?_
        rintro e w2 ⟨v1, v2, us, rfl, u1, u2, u3, hb2⟩
        have HU1 := Hid.mk u1
        have HU2 := Hid.mk u2
        have HU3 := Hid.mk u3
        have HB2 := Hid.mk (bl2 HB1.out hb2)
        have HB12 := Hid.mk hb2
        have e5 := cell_kept hb2 e3
        clear u1 u2 u3 hb2 e0 e1 e3 HD1
        go_wp2_with fail
        with_reducible refine (HD2.out _ HB12.out).mono ?_
        rintro e w3 ⟨v3, v4, ts, rfl, t1, t2, t3, hb3⟩
        have HT1 := Hid.mk t1
        have HT2 := Hid.mk t2
        have HT3 := Hid.mk t3
        have HB3 := Hid.mk (bl2 HB2.out hb3)
        have HU1' := Hid.mk (HU1.out.below hb3)
        clear t1 t2 t3 hb3 e5 HD2
        obtain ⟨s1, m1, k1, rfl⟩ := HU1.out.sliceB
        obtain ⟨s3, m3, k3, rfl⟩ := HT1.out.sliceB
        have hK := HB.out.kept HB3.out
        have f1 := hK.cell (i := 1) rfl
        have g1 := hK.free 1
        have hK1 := hK.set 1 (.slice s1 m1 k1)
        have f3 := hK1.cell (i := 3) rfl
        have g3 := hK1.free 3
        have HK := Hid.mk hK
        have HK2 := Hid.mk (hK1.set 3 (.slice s3 m3 k3))
        clear hK hK1
        go_wp2_with fail
        go_ret
        have ht : Tch [g] w3 ((w3.setCell ⟨g, 1, none⟩ (.slice s1 m1 k1)).setCell ⟨g, 3, none⟩ (.slice s3 m3 k3)) := ((Tch.refl [g] w3).setK (by simp) _ _).setK (by simp) _ _
        exact ⟨rfl, ⟨_, us, _, ts, HFIN.out _ _ _ HK2.out, ⟨HU1'.out.tch HK.out (RatV.noW ⟨_, _, _, _, _, _, _, _, rfl⟩) ht, HU3.out, by rw [HU2.out, HZ2.out, HVP.out]; exact (numL_abs p q).symm⟩, HT1.out.tch HK.out (RatV.noW ⟨_, _, _, _, _, _, _, _, rfl⟩) ht, HT3.out, by rw [HT2.out, HZ2.out, HVQ.out]; exact (denL_abs p q).symm⟩, (HT0.out.trans (Tch.of HB3.out)).trans ht⟩
      · have hzg' : ((zg : Int) == 1) = false := by simp; omega
        clear hzg
        go_wp2_with fail
        with_reducible refine HD1.out.mono ?_
        rintro e w2 ⟨v1, v2, us, rfl, u1, u2, u3, hb2⟩
        have HU1 := Hid.mk u1
        have HU2 := Hid.mk u2
        have HU3 := Hid.mk u3
        have HB2 := Hid.mk (bl2 HB1.out hb2)
        have HB12 := Hid.mk hb2
        have e5 := cell_kept hb2 e3
        clear u1 u2 u3 hb2 e0 e1 e3 HD1
        go_wp2_with fail
        with_reducible refine (HD2.out _ HB12.out).mono ?_
        rintro e w3 ⟨v3, v4, ts, rfl, t1, t2, t3, hb3⟩
        have HT1 := Hid.mk t1
        have HT2 := Hid.mk t2
        have HT3 := Hid.mk t3
        have HB3 := Hid.mk (bl2 HB2.out hb3)
        have HU1' := Hid.mk (HU1.out.below hb3)
        clear t1 t2 t3 hb3 e5 HD2
        obtain ⟨s1, m1, k1, rfl⟩ := HU1.out.sliceB
        obtain ⟨s3, m3, k3, rfl⟩ := HT1.out.sliceB
        have hK := HB.out.kept HB3.out
        have f1 := hK.cell (i := 1) rfl
        have g1 := hK.free 1
        have hK1 := hK.set 1 (.slice s1 m1 k1)
        have f3 := hK1.cell (i := 3) rfl
        have g3 := hK1.free 3
        have HK := Hid.mk hK
        have HK2 := Hid.mk (hK1.set 3 (.slice s3 m3 k3))
        clear hK hK1
        go_wp2_with fail
        go_ret
        have ht : Tch [g] w3 ((w3.setCell ⟨g, 1, none⟩ (.slice s1 m1 k1)).setCell ⟨g, 3, none⟩ (.slice s3 m3 k3)) := ((Tch.refl [g] w3).setK (by simp) _ _).setK (by simp) _ _
        exact ⟨rfl, ⟨_, us, _, ts, HFIN.out _ _ _ HK2.out, ⟨HU1'.out.tch HK.out (RatV.noW ⟨_, _, _, _, _, _, _, _, rfl⟩) ht, HU3.out, by rw [HU2.out, HZ2.out, HVP.out]; exact (numL_abs p q).symm⟩, HT1.out.tch HK.out (RatV.noW ⟨_, _, _, _, _, _, _, _, rfl⟩) ht, HT3.out, by rw [HT2.out, HZ2.out, HVQ.out]; exact (denL_abs p q).symm⟩, (HT0.out.trans (Tch.of HB3.out)).trans ht⟩
theorem norm_neg (g : Nat) (p q : Int) (w : World) (h : RatAt w g p q) (hq : q < 0) (hp1 : -4611686018427387903 ≤ p) (hp2 : p ≤ 4611686018427387903) (hq2 : -4611686018427387903 ≤ q) :
    Calls Tryz.prog 142 #[.pointer (some ⟨g, 0, none⟩)] w fun e w' => e = .returned (.pointer (some ⟨g, 0, none⟩)) ∧ RatAt w' g (numL (-p) (-q)) (denL (-p) (-q)) ∧ Tch [g] w w' := by
  have h' : RatAt w g (- -p) (- -q) := by rw [Int.neg_neg, Int.neg_neg]; exact h
  by_cases h0 : -p = 0
  · exact normN_0 g (-p) (-q) w h' (by omega) (by omega) (by omega) (by omega) h0
  · by_cases h1 : -q = 1
    · exact normN_1 g (-p) (-q) w h' (by omega) (by omega) (by omega) (by omega) h0 h1
    · exact normN_2 g (-p) (-q) w h' (by omega) (by omega) (by omega) (by omega) h0 h1
theorem setFrac_neg (g : Nat) (cs : List Value) (ga oa gb ob : Nat) (p q : Int) (w : World) (hB : BlkAt w g cs 87) (hV : RatV cs) (ha : ZAt w ga oa p) (hb : ZAt w gb ob q) (hq : q < 0) (hp1 : -4611686018427387903 ≤ p) (hp2 : p ≤ 4611686018427387903) (hq2 : -4611686018427387903 ≤ q) :
    Calls Tryz.prog 92 #[.pointer (some ⟨g, 0, none⟩), .pointer (some ⟨ga, oa, none⟩), .pointer (some ⟨gb, ob, none⟩)] w fun e w' => e = .returned (.pointer (some ⟨g, 0, none⟩)) ∧ RatAt w' g (numL (-p) (-q)) (denL (-p) (-q)) ∧ Tch [g] w w' :=
  setFrac_z g cs ga oa gb ob p q _ _ w hB hV ha hb (by omega) hp1 hp2 hq2 (by omega) (fun W h => norm_neg g p q W h hq hp1 hp2 hq2)
end Ww
end Go.Proofs.YtjgliinpaadbnaaGreatDoor
namespace Go.Proofs.YtjgliinpaadbnaaGreatDoor
open Go.ChangeShapes Go.WideShapes Go.ChangeAt Go.RowKit
namespace Ww
open Wm Bm

theorem or_low (o v S : Nat) (ho : o < 2 ^ S) (hS : S < 32) (h : v % 2 ^ S = 0) : o ||| v % 4294967296 = o + v % 4294967296 := by
  have e : (v % 4294967296) % 2 ^ S = 0 := by
    rw [show 4294967296 = 2 ^ S * 2 ^ (32 - S) by rw [← Nat.pow_add, show S + (32 - S) = 32 by omega], Nat.mod_mul_right_mod]; exact h
  obtain ⟨q, hq⟩ : ∃ q, v % 4294967296 = 2 ^ S * q := ⟨v % 4294967296 / 2 ^ S, by have := Nat.div_add_mod (v % 4294967296) (2 ^ S); omega⟩
  rw [hq, Nat.or_comm, ← Nat.two_pow_add_eq_or_of_lt ho q]
  omega

theorem left_arith {V1 V2 r1 r2 o U P P1 A : Nat} (hr1 : r1 = o + U % 4294967296) (hr2 : r2 = U / 4294967296) (hp : P1 = P * 4294967296)
    (e1 : V2 = V1 + P1 * r2) (e2 : V1 + P * o = A + P * r1) : V2 = A + P * U := by
  have hUU : P * U = P * (U % 4294967296) + P * 4294967296 * (U / 4294967296) := by
    rw [Nat.mul_assoc, ← Nat.mul_add]; congr 1; omega
  rw [hUU, e1, hp, hr2]
  rw [hr1, Nat.mul_add] at e2
  generalize P * (U % 4294967296) = X at *
  generalize P * 4294967296 * (U / 4294967296) = Y at *
  generalize P * o = Z at *
  omega
theorem left_step {V1 V2 r1 r2 o U xk k W S : Nat} {xs : List Nat} (hr1 : r1 = o + U % 4294967296) (hr2 : r2 = U / 4294967296) (hU : U = xk * 2 ^ S) (hx : xk = xs.getD k 0) (hk : k < xs.length)
    (e1 : V2 = V1 + 2 ^ (32 * (k + W + 1)) * r2) (e2 : V1 + 2 ^ (32 * (k + W)) * o = 2 ^ (32 * W) * (valW (xs.take k) * 2 ^ S) + 2 ^ (32 * (k + W)) * r1) :
    V2 = 2 ^ (32 * W) * (valW (xs.take (k + 1)) * 2 ^ S) := by
  have hA := left_arith hr1 hr2 (pow32 (k + W)) e1 e2
  have hq : 2 ^ (32 * (k + W)) = 2 ^ (32 * W) * 2 ^ (32 * k) := by rw [← Nat.pow_add, Nat.mul_add, Nat.add_comm]
  have hlen : (xs.take k).length = k := by rw [List.length_take]; omega
  rw [take_snocN xs k hk, valW_snoc, hlen, ← hx, hA, hq, hU]
  rw [Nat.add_mul, Nat.mul_add, Nat.mul_assoc (2 ^ (32 * k)), Nat.mul_assoc (2 ^ (32 * W))]

set_option maxHeartbeats 8000000 in
theorem left_some (va : Value) (xs : List Nat) (n W S : Nat) (w : World) (ha : IsW w va xs) (hla : xs.length ≤ 10000) (h0 : 0 < xs.length) (hn : n = 32 * W + S) (hS : S < 32) (hW : W ≤ 1000) :
    Calls Tryz.prog 98 #[va, .int .u64 n] w fun e w' => ∃ v' rs, e = .returned v' ∧ IsW w' v' rs ∧ valW rs = valW xs * 2 ^ n ∧ trimW rs ∧ rs.length ≤ xs.length + W + 1 ∧ Below w.heap.size w w' := by
  obtain ⟨a, ca, rfl, hca, hma, hna, hcea, hoa⟩ := ha
  have HCA := Hid.mk hcea
  have HNA := Hid.mk hna
  have HOA := Hid.mk hoa
  obtain ⟨nA, hnA⟩ : ∃ n, n = xs.length := ⟨_, rfl⟩
  rw [← hnA] at hla h0 ⊢
  have HLA := Hid.mk hnA
  have g0 : ((nA : Int) == 0) = false := by simp; omega
  have hq : (n : Int) / 32 = (W : Int) := by omega
  have hr : (n : Int) % 32 = (S : Int) := by omega
  have hn2 : (n : Int) ≤ 40000 := by omega
  have HN := Hid.mk hn
  obtain ⟨i0, hi, hz0, hz1, hz2⟩ := info_parts info_u32
  clear hcea hna hoa hnA hca hma hn
  go_enter Tryz.func98, Tryz.ntmps98
  go_wp2_with (at_make; refine wpList_make_full _ rfl (.tmp 22) (.tmp 22) 83 rfl w.heap.size 142 i0 (.int .u32 0) 1 Tryz.underlying83 hi hz0 hz1 .i64 .i64 _ _ (nA + W + 1) rfl rfl (by omega) (by omega) (by rw [hz2]; omega) (by unfold maxLen; omega) (Nat.le_refl _) ?_; intro w2 hown hgrow)
  have hown0 : w2.ownsRow w.heap.size 142 1 (.slice (some ⟨w.heap.size, 0, none⟩) (nA + W + 1) (nA + W + 1)) (nA + W + 1) (cellsW (List.replicate (nA + W + 1) 0)) := by
    have := cellsW_rep (nA + W + 1)
    rw [List.nil_append, Nat.sub_zero] at this
    rw [this, ← toList_madeCells_one]
    rw [Nat.mul_one] at hown
    exact hown
  have hb2 : Below w.heap.size w w2 := Below.grown (Below.refl _ _) hgrow (Nat.le_refl _) (fun q hq => by cases hq)
  clear hown hgrow hi hz0 hz1 hz2 g0 hq hr
  go_wp2_with fail
  go_loopw [8] (fun i wr => ∃ (k : Nat) (rs : List Nat), k ≤ nA ∧ i = .int .i64 k ∧ rs.length = nA + W + 1 ∧ okW rs ∧ (∀ p, k + W + 1 ≤ p → rs.getD p 0 = 0) ∧ rs.getD (k + W) 0 < 2 ^ S ∧ valW rs = 2 ^ (32 * W) * (valW (xs.take k) * 2 ^ S) ∧
      wr.ownsRow w.heap.size 142 1 (.slice (some ⟨w.heap.size, 0, none⟩) (nA + W + 1) (nA + W + 1)) (nA + W + 1) (cellsW rs) ∧ Below w.heap.size w wr) (fun i _ => nA - (intOf i).toNat)
  case atStart => exact ⟨0, List.replicate (nA + W + 1) 0, Nat.zero_le _, rfl, by simp, (fun x hx => by rw [List.eq_of_mem_replicate hx]; omega), (fun p _ => by simp [List.getD, List.getElem?_replicate]; split <;> rfl), by rw [show (List.replicate (nA + W + 1) 0).getD (0 + W) 0 = 0 by simp [List.getD, List.getElem?_replicate]; split <;> rfl]; exact Nat.two_pow_pos S, by rw [valW_zeros]; simp [valW], hown0, hb2⟩
  case round =>
    clear hown0 hb2
    obtain ⟨k, rs, hk, rfl, hrl, hro, hrz, hrc, hrv, hown, hbel⟩ := hrel
    have HRL := Hid.mk hrl
    have HRO := Hid.mk hro
    have HRZ := Hid.mk hrz
    have HRV := Hid.mk hrv
    have HRC := Hid.mk hrc
    clear hrl hro hrz hrv hrc
    by_cases hlt : k < nA
    · cases a with
      | none => exact absurd (HNA.out rfl) (by have := HLA.out; omega)
      | some p =>
        have hcx := Bw.cell_kept hbel (HCA.out p rfl k (by have := HLA.out; omega))
        have hxk := okW_getD HOA.out k
        obtain ⟨xk, hxE⟩ : ∃ xk, xk = xs.getD k 0 := ⟨_, rfl⟩
        rw [← hxE] at hcx hxk
        have HXE := Hid.mk hxE
        have hlt' : (k : Int) < (nA : Int) := by omega
        have hx' : (xk : Int) ≤ 4294967295 := by omega
        have hc3 := hown.cellAt (k + W) (by omega)
        have hf3 := hown.frozenAt (k + W)
        rw [cellsW_get rs (k + W) (by have := HRL.out; omega)] at hc3
        have hok := okW_getD HRO.out (k + W)
        obtain ⟨o, hoE⟩ : ∃ o, o = rs.getD (k + W) 0 := ⟨_, rfl⟩
        rw [← hoE] at hc3 hok
        have HOE := Hid.mk hoE
        have ho' : (o : Int) ≤ 4294967295 := by omega
        obtain ⟨U, hU⟩ : ∃ U, U = xk * 2 ^ S := ⟨_, rfl⟩
        have hU1 : U ≤ 4294967295 * 2147483648 := by
          rw [hU]
          exact Nat.mul_le_mul (by omega) (by
            have : 2 ^ S ≤ 2 ^ 31 := Nat.pow_le_pow_right (by omega) (by omega)
            omega)
        have hUi : (U : Int) ≤ 9223372034707292160 := by omega
        have hsh : IntKind.u64.wrap ((xk : Int) * 2 ^ S) = (U : Int) := by
          have e : (xk : Int) * 2 ^ S = (U : Int) := by rw [hU]; simp
          rw [e, IntKind.wrap_u64]; omega
        have hor1 : o ||| U % 4294967296 = o + U % 4294967296 := or_low o U S (by rw [HOE.out]; exact HRC.out) hS (by rw [hU]; exact Nat.mul_mod_left _ _)
        have hoU : o + U % 4294967296 < 4294967296 := by rw [← hor1]; exact Nat.or_lt_two_pow (n := 32) (by omega) (by omega)
        obtain ⟨r1, hr1⟩ : ∃ r1, r1 = o + U % 4294967296 := ⟨_, rfl⟩
        have hb1 : bits .or .u32 (o : Int) ((U : Int) % 4294967296) = (r1 : Int) := by
          rw [show (U : Int) % 4294967296 = ((U % 4294967296 : Nat) : Int) by omega, u32_or_nat o _ (by omega) (by omega), hor1, hr1]
        obtain ⟨r2, hr2⟩ : ∃ r2, r2 = U / 4294967296 := ⟨_, rfl⟩
        have hr2b : r2 < 2 ^ S := by
          rw [hr2, hU]
          apply Nat.div_lt_of_lt_mul
          exact Nat.mul_lt_mul_of_pos_right (by omega) (Nat.two_pow_pos S)
        have hb2 : bits .or .u32 0 ((U : Int) / 4294967296) = (r2 : Int) := by
          have := u32_or_nat 0 (U / 4294967296) (by omega) (by omega)
          rw [Nat.zero_or] at this
          rw [show (U : Int) / 4294967296 = ((U / 4294967296 : Nat) : Int) by omega, hr2]
          exact this
        have hst1 := hown.stored (k + W) (.int .u32 (r1 : Int))
        rw [cellsW_setAt] at hst1
        have hbel1 := hbel.grown hst1.2 hbel.size (fun q hq => by cases hq; exact Nat.le_refl _)
        have hl1 : (rs.set (k + W) r1).length = nA + W + 1 := by rw [List.length_set]; exact HRL.out
        have hz1 : (rs.set (k + W) r1).getD (k + W + 1) 0 = 0 := set_zero HRZ.out (by omega) _ (by omega)
        have hc4 := hst1.1.cellAt (k + W + 1) (by omega)
        rw [cellsW_get _ (k + W + 1) (by omega), hz1] at hc4
        have hf4 := hst1.1.frozenAt (k + W + 1)
        have hst2 := hst1.1.stored (k + W + 1) (.int .u32 (r2 : Int))
        rw [cellsW_setAt] at hst2
        have hbel2 := hbel1.grown hst2.2 hbel1.size (fun q hq => by cases hq; exact Nat.le_refl _)
        have hok2 : okW ((rs.set (k + W) r1).set (k + W + 1) r2) := okW_set (okW_set HRO.out _ _ (by omega)) _ _ (by omega)
        have hz2 : ∀ p, k + 1 + W + 1 ≤ p → ((rs.set (k + W) r1).set (k + W + 1) r2).getD p 0 = 0 := fun p hp =>
          set_zero (q := k + 1 + W + 1) (set_zero (q := k + 1 + W + 1) (fun p hp => HRZ.out p (by omega)) (by omega)) (by omega) p hp
        have hg2 : ((rs.set (k + W) r1).set (k + W + 1) r2).getD (k + 1 + W) 0 = r2 := by
          rw [show k + 1 + W = k + W + 1 by omega]
          have : k + W + 1 < (rs.set (k + W) r1).length := by omega
          simp only [List.getD, List.getElem?_set_self this, Option.getD_some]
        have hv2 : valW ((rs.set (k + W) r1).set (k + W + 1) r2) = 2 ^ (32 * W) * (valW (xs.take (k + 1)) * 2 ^ S) := by
          have e1 := valW_set (rs.set (k + W) r1) (k + W + 1) r2 (by omega)
          rw [hz1, Nat.mul_zero, Nat.add_zero] at e1
          have e2 := valW_set rs (k + W) r1 (by have := HRL.out; omega)
          rw [← HOE.out, HRV.out] at e2
          exact left_step hr1 hr2 hU HXE.out (by have := HLA.out; omega) e1 e2
        have HST := Hid.mk hst2.1
        have HOK := Hid.mk hok2
        have HZ2 := Hid.mk hz2
        have HG2 := Hid.mk hg2
        have HV2 := Hid.mk hv2
        have HR2 := Hid.mk hr2b
        have HL1 := Hid.mk hl1
        clear hxE hoE hU hU1 hor1 hoU hr1 hr2 hr2b hst1 hst2 hok2 hz2 hg2 hv2 hown hbel hbel1 hl1 hz1
        go_wp2_with fail
        go_roundw
        case rel => exact ⟨k + 1, _, by omega, by go_num, by rw [List.length_set]; exact HL1.out, HOK.out, HZ2.out, by rw [HG2.out]; exact HR2.out, HV2.out, HST.out, hbel2⟩
        case measure => simp [intOf]; omega
    · have e : k = nA := by omega
      subst e
      have hW2 : IsW wr (.slice (some ⟨w.heap.size, 0, none⟩) (k + W + 1) (k + W + 1)) rs := isW_own hown HRL.out (by unfold maxLen; omega) HRO.out
      have HW2 := Hid.mk hW2
      clear hW2 hown
      go_wp2_with fail
      refine (trim_any _ rs wr HW2.out (by have := HRL.out; omega)).mono ?_
      rintro e w3 ⟨v', ys, rfl, hy, hv, ht, hl, hw3⟩
      subst hw3
      have HY := Hid.mk hy
      have HT := Hid.mk ht
      have hfin : valW ys = valW xs * 2 ^ n := by
        rw [hv, HRV.out, List.take_of_length_le (by have := HLA.out; omega), HN.out, Nat.pow_add, ← Nat.mul_assoc, Nat.mul_comm (2 ^ (32 * W)), Nat.mul_assoc]
      have HF := Hid.mk hfin
      have hll : ys.length ≤ k + W + 1 := by have := HRL.out; omega
      clear hy ht hv hfin hl
      go_wp2_with fail
      go_ret
      exact ⟨_, ys, rfl, HY.out, HF.out, HT.out, hll, hbel⟩

set_option maxHeartbeats 1000000 in
theorem left_nil (va : Value) (xs : List Nat) (n : Nat) (w : World) (ha : IsW w va xs) (h0 : xs.length = 0) :
    Calls Tryz.prog 98 #[va, .int .u64 n] w fun e w' => e = .returned (.slice none 0 0) ∧ w' = w := by
  obtain ⟨a, ca, rfl, hca, hma, hna, hcea, hoa⟩ := ha
  rw [h0]
  clear hca hma hna hcea hoa h0
  go_enter Tryz.func98, Tryz.ntmps98
  go_wp2_with fail
  go_ret
  exact ⟨rfl, rfl⟩

theorem left_any (va : Value) (xs : List Nat) (n : Nat) (w : World) (ha : IsW w va xs) (hla : xs.length ≤ 10000) (hn : n ≤ 30000) :
    Calls Tryz.prog 98 #[va, .int .u64 n] w fun e w' => ∃ v' rs, e = .returned v' ∧ IsW w' v' rs ∧ valW rs = valW xs * 2 ^ n ∧ trimW rs ∧ rs.length ≤ xs.length + n / 32 + 1 ∧ Below w.heap.size w w' := by
  by_cases h0 : xs.length = 0
  · refine (left_nil va xs n w ha h0).mono ?_
    rintro e w' ⟨rfl, rfl⟩
    have : xs = [] := List.eq_nil_of_length_eq_zero h0
    subst this
    exact ⟨_, [], rfl, isW_nil _, by simp [valW], .inl rfl, by simp, Below.refl _ _⟩
  · exact left_some va xs n (n / 32) (n % 32) w ha hla (by omega) (by omega) (by omega) (by omega)

/-- the number of bits of the highest word -/
theorem len_top {xs : List Nat} (hok : okW xs) (h0 : 0 < xs.length) {top j : Nat} (ht : top = xs.getD (xs.length - 1) 0) (hlt : top < 2 ^ j) (hge : j = 0 ∨ 2 ^ (j - 1) ≤ top) (hnz : top ≠ 0) :
    valW xs < 2 ^ ((xs.length - 1) * 32 + j) ∧ ((xs.length - 1) * 32 + j = 0 ∨ 2 ^ ((xs.length - 1) * 32 + j - 1) ≤ valW xs) := by
  have hk : xs.length - 1 < xs.length := by omega
  have e : xs = xs.take (xs.length - 1) ++ [top] := by
    rw [ht, ← take_snocN xs (xs.length - 1) hk, List.take_of_length_le (by omega)]
  have hlen : (xs.take (xs.length - 1)).length = xs.length - 1 := by rw [List.length_take]; omega
  have hv : valW xs = valW (xs.take (xs.length - 1)) + 2 ^ (32 * (xs.length - 1)) * top := by
    have := valW_snoc (xs.take (xs.length - 1)) top
    rw [← e, hlen] at this
    exact this
  have hl := valW_lt _ (okW_take hok (xs.length - 1))
  rw [hlen] at hl
  have hj : 1 ≤ j := by
    rcases hge with rfl | h
    · simp at hlt; omega
    · rcases Nat.lt_or_ge 0 j with h' | h'
      · exact h'
      · have : j = 0 := by omega
        subst this
        simp at hlt; omega
  have hge' : 2 ^ (j - 1) ≤ top := by rcases hge with h | h; omega; exact h
  generalize xs.length - 1 = m at *
  generalize valW (xs.take m) = A at *
  rw [hv]
  refine ⟨?_, .inr ?_⟩
  · have e1 : 2 ^ (m * 32 + j) = 2 ^ (32 * m) * 2 ^ j := by rw [Nat.pow_add, Nat.mul_comm m]
    have : 2 ^ (32 * m) * (top + 1) ≤ 2 ^ (32 * m) * 2 ^ j := Nat.mul_le_mul_left _ hlt
    rw [Nat.mul_add, Nat.mul_one] at this
    omega
  · have e1 : 2 ^ (m * 32 + j - 1) = 2 ^ (32 * m) * 2 ^ (j - 1) := by rw [← Nat.pow_add, Nat.mul_comm m]; congr 1; omega
    have : 2 ^ (32 * m) * 2 ^ (j - 1) ≤ 2 ^ (32 * m) * top := Nat.mul_le_mul_left _ hge'
    omega

set_option maxHeartbeats 4000000 in
theorem length_any (va : Value) (xs : List Nat) (w : World) (ha : IsW w va xs) (hla : xs.length ≤ 10000) (ht : trimW xs) :
    Calls Tryz.prog 182 #[va] w fun e w' => ∃ L : Nat, e = .returned (.int .i64 L) ∧ valW xs < 2 ^ L ∧ (L = 0 ∨ 2 ^ (L - 1) ≤ valW xs) ∧ L ≤ 32 * xs.length ∧ w' = w := by
  obtain ⟨a, ca, rfl, hca, hma, hna, hcea, hoa⟩ := ha
  by_cases h0 : xs.length = 0
  · have : xs = [] := List.eq_nil_of_length_eq_zero h0
    subst this
    clear hca hma hna hcea hoa h0 ht hla
    go_enter Tryz.func182, Tryz.ntmps182
    go_wp2_with fail
    go_ret
    exact ⟨0, rfl, by simp [valW], .inl rfl, by simp, rfl⟩
  · cases a with
    | none => exact absurd (hna rfl) h0
    | some p =>
      have hcx := hcea p rfl (xs.length - 1) (by omega)
      have htop := okW_getD hoa (xs.length - 1)
      obtain ⟨top, htE⟩ : ∃ top, top = xs.getD (xs.length - 1) 0 := ⟨_, rfl⟩
      rw [← htE] at hcx htop
      have hnz : top ≠ 0 := by
        rcases ht with rfl | h
        · simp at h0
        · rw [htE]; exact h
      obtain ⟨nA, hnA⟩ : ∃ n, n = xs.length := ⟨_, rfl⟩
      have HE := Hid.mk htE
      have HO := Hid.mk hoa
      have HNZ := Hid.mk hnz
      rw [← hnA] at hla h0 hcx ⊢
      have HLA := Hid.mk hnA
      have h1 : (1 : Int) ≤ (nA : Int) := by omega
      have g0 : ((nA : Int) == 0) = false := by simp; omega
      have hidx : ((nA : Int) - 1).toNat = nA - 1 := by omega
      have HTOP := Hid.mk htop
      clear hca hma hna hcea hoa h0 ht htE hnz hnA htop
      go_enter Tryz.func182, Tryz.ntmps182
      go_wp2_with fail
      go_loopw [3, 4] (fun c t wr => ∃ (j T : Nat), c = .int .i64 j ∧ t = .int .u32 T ∧ T = top / 2 ^ j ∧ j ≤ 32 ∧ (j = 0 ∨ 2 ^ (j - 1) ≤ top) ∧ wr = w) (fun _ t _ => (intOf t).toNat)
      case atStart => exact ⟨0, top, rfl, rfl, by simp, by omega, .inl rfl, rfl⟩
      case round =>
        obtain ⟨j, T, rfl, rfl, hT, hj, hge, rfl⟩ := hrel
        have HT := Hid.mk hT
        have HGE := Hid.mk hge
        clear hT hge
        by_cases hz : T = 0
        · subst hz
          have hlt : top < 2 ^ j := by
            have := HT.out
            rcases Nat.lt_or_ge top (2 ^ j) with h | h
            · exact h
            · have := Nat.div_pos h (Nat.two_pow_pos j); omega
          have hfin := len_top HO.out (by have := HLA.out; omega) HE.out hlt HGE.out HNZ.out
          rw [← HLA.out] at hfin
          have HF := Hid.mk hfin
          clear hlt hfin
          go_wp2_with fail
          go_ret
          exact ⟨(nA - 1) * 32 + j, congrArg (fun z : Int => Ending.returned (Value.int .i64 z)) (show ((nA : Int) - 1) * 32 + (j : Int) = (((nA - 1) * 32 + j : Nat) : Int) by omega), HF.out.1, HF.out.2, by omega, rfl⟩
        · have hz' : ((T : Int) != 0) = true := by simp; omega
          have hz2 : ((T : Int) == 0) = false := by simp; omega
          have hTb : T < 4294967296 := by
            have := HT.out
            have h2 : top / 2 ^ j ≤ top := Nat.div_le_self _ _
            have := HTOP.out
            omega
          have hTi : (T : Int) ≤ 4294967295 := by omega
          have hge2 : 2 ^ j ≤ top := by
            rcases Nat.lt_or_ge top (2 ^ j) with h | h
            · have := Nat.div_eq_of_lt h
              have := HT.out
              omega
            · exact h
          have hj2 : j + 1 ≤ 32 := by
            rcases Nat.lt_or_ge j 32 with h | h
            · exact h
            · have : 2 ^ 32 ≤ 2 ^ j := Nat.pow_le_pow_right (by omega) h
              have := HTOP.out
              omega
          have HGE2 := Hid.mk hge2
          have hT2 : T / 2 = top / 2 ^ (j + 1) := by rw [HT.out, Nat.pow_succ, Nat.div_div_eq_div_mul]
          have HT2 := Hid.mk hT2
          clear hge2 hT2 hTb
          go_wp2_with fail
          go_roundw
          case rel => exact ⟨j + 1, T / 2, by go_num, by go_num, HT2.out, hj2, .inr HGE2.out, by trivial⟩
          case measure => simp [intOf]; omega
end Ww
end Go.Proofs.YtjgliinpaadbnaaGreatDoor
namespace Go.Proofs.YtjgliinpaadbnaaGreatDoor
open Go.ChangeShapes Go.WideShapes Go.ChangeAt Go.RowKit Go.Sort
namespace Ww
open Wm
open Bw (Tch bl2 cell_kept)
def cmpI (x y : Int) : Int := if x < y then -1 else if y < x then 1 else 0
theorem abs_smallC {r : Int} (h1 : -4611686018427387903 ≤ r) (h2 : r ≤ 4611686018427387903) {xs : List Nat} (hv : valW xs = r.natAbs) : valW xs < 2 ^ 62 := by omega
theorem cmpI_pos {x y : Int} (hx : ¬ x < 0) (hy : ¬ y < 0) : cmpN x.natAbs y.natAbs = cmpI x y := by
  unfold cmpN cmpI
  by_cases h : x < y
  · rw [if_pos (by omega), if_pos h]
  · rw [if_neg (by omega), if_neg h]
    by_cases h2 : y < x
    · rw [if_pos (by omega), if_pos h2]
    · rw [if_neg (by omega), if_neg h2]
theorem cmpI_neg {x y : Int} (hx : x < 0) (hy : y < 0) : -cmpN x.natAbs y.natAbs = cmpI x y := by
  unfold cmpN cmpI
  by_cases h : x < y
  · rw [if_neg (by omega), if_pos (by omega), if_pos h]
  · rw [if_neg h]
    by_cases h2 : y < x
    · rw [if_pos (by omega), if_pos h2]; rfl
    · rw [if_neg (by omega), if_neg (by omega), if_neg h2]; rfl
theorem cmpN_b (x y : Nat) : -1 ≤ cmpN x y ∧ cmpN x y ≤ 1 := by
  unfold cmpN
  split
  · omega
  · split <;> omega
set_option maxHeartbeats 8000000 in
set_option maxRecDepth 100000 in
theorem icmp_z (gx ox gy oy : Nat) (x y : Int) (w : World) (hx : ZAt w gx ox x) (hy : ZAt w gy oy y) (hx1 : -4611686018427387903 ≤ x) (hx2 : x ≤ 4611686018427387903) (hy1 : -4611686018427387903 ≤ y) (hy2 : y ≤ 4611686018427387903) :
    Calls Tryz.prog 58 #[.pointer (some ⟨gx, ox, none⟩), .pointer (some ⟨gy, oy, none⟩)] w fun e w' => e = .returned (.int .i64 (cmpI x y)) ∧ Below w.heap.size w w' := by
  obtain ⟨va, xs, a1, a2, a3, a4, a5⟩ := hx
  obtain ⟨vb, ys, b1, b2, b3, b4, b5⟩ := hy
  have hla := len_two a4 (abs_smallC hx1 hx2 a5)
  have hlb := len_two b4 (abs_smallC hy1 hy2 b5)
  have hC := fun W (h : Below w.heap.size w W) => cmp_any va vb xs ys W (a3.below h) (b3.below h) a4 b4 (by omega) (by omega)
  rw [a5, b5] at hC
  obtain ⟨la, na, ca, rfl⟩ := a3.sliceB
  obtain ⟨lb, nb, cb, rfl⟩ := b3.sliceB
  have hcb := cmpN_b x.natAbs y.natAbs
  by_cases hX : x < 0
  · rw [decide_eq_true hX] at a1
    by_cases hY : y < 0
    · rw [decide_eq_true hY] at b1
      rw [← cmpI_neg hX hY]
      generalize cmpN x.natAbs y.natAbs = C at *
      obtain ⟨hc1, hc2⟩ := hcb
      have HC := Hid.mk hC
      clear hx1 hx2 hy1 hy2 a3 a4 a5 b3 b4 b5 hla hlb hC hX hY
      go_enter Tryz.func58, Tryz.ntmps58
      go_wp2_with fail
      go_quiet (fail)
      obtain ⟨W1, hW1⟩ : ∃ W1, W1 = w.drewN nq := ⟨_, rfl⟩
      have HB1 := Hid.mk (show Below w.heap.size w W1 by rw [hW1]; exact drBw w _)
      rw [← hW1]
      clear hW1
      have k1 := cell_kept HB1.out a1
      have k2 := cell_kept HB1.out a2
      have k4 := cell_kept HB1.out b2
      clear a1 a2 b1 b2
      go_wp2_with fail
      have rx2 := fun d os => cell_kept (below_regrown W1 d os) k2
      have rx4 := fun d os => cell_kept (below_regrown W1 d os) k4
      refine wp_region_quiet_below (by kernel_rfl) (by kernel_rfl) ?_
      repeat (go_big_quiet_step ((go_at_call 103; exact Calls.regrown_of (HC.out _ (bl2 HB1.out (below_regrown W1 _ _))))))
      refine wpQuiet_nil ?_
      intro _ hw'
      obtain ⟨⟨dq, osq⟩, hw''⟩ := hw'
      have hbq := below_regrown W1 dq osq
      rw [hw'']
      generalize grow (redrawn W1 dq) osq = W2 at *
      have HB2 := Hid.mk (bl2 HB1.out hbq)
      have k5 := cell_kept hbq k1
      clear hw'' hbq rx2 rx4 k1 k2 k4
      go_wp2_with fail
      go_ret
      exact ⟨rfl, HB2.out⟩
    · rw [decide_eq_false hY] at b1
      have hr : cmpI x y = -1 := by unfold cmpI; rw [if_pos (by omega)]
      rw [hr]
      clear hx1 hx2 hy1 hy2 a3 a4 a5 b3 b4 b5 hla hlb hC hX hY hcb hr
      go_enter Tryz.func58, Tryz.ntmps58
      go_wp2_with fail
      go_quiet (fail)
      obtain ⟨W1, hW1⟩ : ∃ W1, W1 = w.drewN nq := ⟨_, rfl⟩
      have HB1 := Hid.mk (show Below w.heap.size w W1 by rw [hW1]; exact drBw w _)
      rw [← hW1]
      clear hW1
      have k1 := cell_kept HB1.out a1
      clear a1 a2 b1 b2
      go_wp2_with fail
      go_ret
      exact ⟨rfl, HB1.out⟩
  · rw [decide_eq_false hX] at a1
    by_cases hY : y < 0
    · rw [decide_eq_true hY] at b1
      have hr : cmpI x y = 1 := by unfold cmpI; rw [if_neg (by omega), if_pos (by omega)]
      rw [hr]
      clear hx1 hx2 hy1 hy2 a3 a4 a5 b3 b4 b5 hla hlb hC hX hY hcb hr
      go_enter Tryz.func58, Tryz.ntmps58
      go_wp2_with fail
      go_quiet (fail)
      obtain ⟨W1, hW1⟩ : ∃ W1, W1 = w.drewN nq := ⟨_, rfl⟩
      have HB1 := Hid.mk (show Below w.heap.size w W1 by rw [hW1]; exact drBw w _)
      rw [← hW1]
      clear hW1
      have k1 := cell_kept HB1.out a1
      clear a1 a2 b1 b2
      go_wp2_with fail
      go_ret
      exact ⟨rfl, HB1.out⟩
    · rw [decide_eq_false hY] at b1
      rw [← cmpI_pos hX hY]
      generalize cmpN x.natAbs y.natAbs = C at *
      have HC := Hid.mk hC
      clear hx1 hx2 hy1 hy2 a3 a4 a5 b3 b4 b5 hla hlb hC hX hY hcb
      go_enter Tryz.func58, Tryz.ntmps58
      go_wp2_with fail
      go_quiet (fail)
      obtain ⟨W1, hW1⟩ : ∃ W1, W1 = w.drewN nq := ⟨_, rfl⟩
      have HB1 := Hid.mk (show Below w.heap.size w W1 by rw [hW1]; exact drBw w _)
      rw [← hW1]
      clear hW1
      have k1 := cell_kept HB1.out a1
      have k2 := cell_kept HB1.out a2
      have k4 := cell_kept HB1.out b2
      clear a1 a2 b1 b2
      go_wp2_with fail
      have rx2 := fun d os => cell_kept (below_regrown W1 d os) k2
      have rx4 := fun d os => cell_kept (below_regrown W1 d os) k4
      refine wp_region_quiet_below (by kernel_rfl) (by kernel_rfl) ?_
      repeat (go_big_quiet_step ((go_at_call 103; exact Calls.regrown_of (HC.out _ (bl2 HB1.out (below_regrown W1 _ _))))))
      refine wpQuiet_nil ?_
      intro _ hw'
      obtain ⟨⟨dq, osq⟩, hw''⟩ := hw'
      have hbq := below_regrown W1 dq osq
      rw [hw'']
      generalize grow (redrawn W1 dq) osq = W2 at *
      have HB2 := Hid.mk (bl2 HB1.out hbq)
      have k5 := cell_kept hbq k1
      clear hw'' hbq rx2 rx4 k1 k2 k4
      go_wp2_with fail
      go_ret
      exact ⟨rfl, HB2.out⟩
end Ww
end Go.Proofs.YtjgliinpaadbnaaGreatDoor
namespace Go.Proofs.YtjgliinpaadbnaaGreatDoor
open Go.ChangeShapes Go.WideShapes Go.ChangeAt Go.RowKit
namespace Ww
open Wm
def rgW (xs : List Nat) (k : Nat) : Nat := (xs.getD k 0 + 4294967296 * xs.getD (k + 1) 0) / 2 % 4294967296
def rgL (xs : List Nat) (k : Nat) : List Nat := (List.range k).map (rgW xs)
theorem rgL_length (xs : List Nat) (k : Nat) : (rgL xs k).length = k := by simp [rgL]
theorem rgL_succ (xs : List Nat) (k : Nat) : rgL xs (k + 1) = rgL xs k ++ [rgW xs k] := by simp [rgL, List.range_succ]
theorem rgL_ok (xs : List Nat) (k : Nat) : okW (rgL xs k) := by
  intro x hx
  obtain ⟨i, _, rfl⟩ := List.mem_map.1 hx
  exact Nat.mod_lt _ (by omega)
theorem rgL_val {xs : List Nat} (hok : okW xs) (h2 : xs.length ≤ 2) : valW (rgL xs xs.length) = valW xs / 2 := by
  match xs, h2 with
  | [], _ => rfl
  | [x], _ =>
    have hx := hok x (by simp)
    simp [rgL, rgW, valW, List.range_succ]
    omega
  | [x, y], _ =>
    have hx := hok x (by simp)
    have hy := hok y (by simp)
    simp [rgL, rgW, valW, List.range_succ]
    omega
set_option maxHeartbeats 8000000 in
set_option maxRecDepth 100000 in
theorem right_one (va : Value) (xs : List Nat) (w : World) (ha : IsW w va xs) (h0 : 0 < xs.length) (h2 : xs.length ≤ 2) (hv : valW xs < 2 ^ 62) :
    Calls Tryz.prog 100 #[va, .int .u64 1] w fun e w' => ∃ v' rs, e = .returned v' ∧ IsW w' v' rs ∧ valW rs = valW xs / 2 ∧ trimW rs ∧ Below w.heap.size w w' := by
  obtain ⟨a, ca, rfl, hca, hma, hna, hcea, hoa⟩ := ha
  have hy30 : ∀ k, k + 1 < xs.length → xs.getD (k + 1) 0 < 1073741824 := by
    intro k hk
    match xs, h2 with
    | [x], _ => simp at hk
    | [x, y], _ =>
      have hk0 : k = 0 := by simp at hk; omega
      subst hk0
      have hx := hoa x (by simp)
      simp [valW] at hv ⊢
      omega
  have HY30 := Hid.mk hy30
  have HVAL := Hid.mk (rgL_val hoa h2)
  have HCA := Hid.mk hcea
  have HNA := Hid.mk hna
  have HOA := Hid.mk hoa
  obtain ⟨nA, hnA⟩ : ∃ n, n = xs.length := ⟨_, rfl⟩
  rw [← hnA] at h0 h2 HVAL ⊢
  have HLA := Hid.mk hnA
  have g1 : (nA : Int) ≤ 2 := by omega
  have g2 : (0 : Int) < (nA : Int) := by omega
  obtain ⟨i0, hi, hz0, hz1, hz2⟩ := info_parts info_u32
  clear hcea hna hoa hnA hca hma hy30 hv
  go_enter Tryz.func100, Tryz.ntmps100
  go_wp2_with (at_make; refine wpList_make_full _ rfl (.tmp 22) (.tmp 22) 83 rfl w.heap.size 142 i0 (.int .u32 0) 1 Tryz.underlying83 hi hz0 hz1 .i64 .i64 _ _ nA rfl rfl (by omega) (by omega) (by rw [hz2]; omega) (by unfold maxLen; omega) (Nat.le_refl _) ?_; intro w2 hown hgrow)
  have hown0 : w2.ownsRow w.heap.size 142 1 (.slice (some ⟨w.heap.size, 0, none⟩) nA nA) nA (cellsW (rgL xs 0 ++ List.replicate (nA - 0) 0)) := by
    have := cellsW_rep nA
    rw [show rgL xs 0 = [] from rfl, this, ← toList_madeCells_one]
    rw [Nat.mul_one] at hown
    exact hown
  have hb2 : Below w.heap.size w w2 := Below.grown (Below.refl _ _) hgrow (Nat.le_refl _) (fun q hq => by cases hq)
  clear hown hgrow hi hz0 hz1 hz2
  go_wp2_with fail
  go_loopw [8] (fun i wr => ∃ k : Nat, k ≤ nA ∧ i = .int .i64 k ∧ wr.ownsRow w.heap.size 142 1 (.slice (some ⟨w.heap.size, 0, none⟩) nA nA) nA (cellsW (rgL xs k ++ List.replicate (nA - k) 0)) ∧ Below w.heap.size w wr) (fun i _ => nA - (intOf i).toNat)
  case atStart => exact ⟨0, Nat.zero_le _, rfl, hown0, hb2⟩
  case round =>
    clear hown0 hb2
    obtain ⟨k, hk, rfl, hown, hbel⟩ := hrel
    by_cases hlt : k < nA
    · cases a with
      | none => exact absurd (HNA.out rfl) (by have := HLA.out; omega)
      | some p =>
        have hcx := Bw.cell_kept hbel (HCA.out p rfl k (by have := HLA.out; omega))
        have hxk := okW_getD HOA.out k
        have hlt' : (k : Int) < (nA : Int) := by omega
        have hc3 := hown.cellAt k (by omega)
        have hf3 := hown.frozenAt k
        rw [cellsW_at (rgL xs k) nA k (rgL_length xs k) (by omega)] at hc3
        have hst := hown.stored k (.int .u32 (rgW xs k : Int))
        rw [cellsW_set (rgL xs k) nA k (rgW xs k) (rgL_length xs k) (by omega), ← rgL_succ] at hst
        have HST := Hid.mk hst
        clear hst hown
        have hrw : rgW xs k = (xs.getD k 0 + 4294967296 * xs.getD (k + 1) 0) / 2 % 4294967296 := rfl
        by_cases hly : k + 1 < nA
        · have hcy := Bw.cell_kept hbel (HCA.out p rfl (k + 1) (by have := HLA.out; omega))
          have hy30 := HY30.out k (by have := HLA.out; omega)
          generalize rgW xs k = R at *
          generalize xs.getD (k + 1) 0 = y at *
          generalize xs.getD k 0 = x at *
          have hor := or_hiW x y hxk hy30
          have hx' : (x : Int) ≤ 4294967295 := by omega
          have hy' : (y : Int) ≤ 1073741823 := by omega
          have hly' : (k : Int) + 1 < (nA : Int) := by omega
          have hcy2 : wr.cell? ⟨p.block, p.off + (k + 1), none⟩ = some (.int .u32 (y : Int)) := by rw [← hcy]; simp [Addr.add]
          have hsv : IntKind.u32.wrap (((x : Int) + 4294967296 * (y : Int)) / 2) = (R : Int) := by rw [IntKind.wrap_u32, hrw]; omega
          have hsw : (((x : Int) + 4294967296 * (y : Int)) / 2) % 4294967296 = (R : Int) := by rw [hrw]; omega
          clear hrw
          go_wp2_with fail
          go_roundw
          case rel => exact ⟨k + 1, by omega, by go_num, HST.out.1, hbel.grown HST.out.2 hbel.size (fun q hq => by cases hq; exact Nat.le_refl _)⟩
          case measure => simp [intOf]; omega
        · have hy0 : xs.getD (k + 1) 0 = 0 := by
            have := HLA.out
            rw [List.getD_eq_getElem?_getD, List.getElem?_eq_none (by omega)]
            rfl
          rw [hy0] at hrw
          generalize rgW xs k = R at *
          generalize xs.getD k 0 = x at *
          have hx' : (x : Int) ≤ 4294967295 := by omega
          have hly' : (nA : Int) ≤ (k : Int) + 1 := by omega
          have hsv : IntKind.u32.wrap ((x : Int) / 2) = (R : Int) := by rw [IntKind.wrap_u32, hrw]; omega
          have hsw : ((x : Int) / 2) % 4294967296 = (R : Int) := by rw [hrw]; omega
          clear hrw hy0
          go_wp2_with fail
          go_roundw
          case rel => exact ⟨k + 1, by omega, by go_num, HST.out.1, hbel.grown HST.out.2 hbel.size (fun q hq => by cases hq; exact Nat.le_refl _)⟩
          case measure => simp [intOf]; omega
    · have e : k = nA := by omega
      subst e
      rw [Nat.sub_self, List.replicate_zero, List.append_nil] at hown
      have HTR := Hid.mk (trim_any _ (rgL xs k) wr (isW_own hown (rgL_length xs k) (by unfold maxLen; omega) (rgL_ok xs k)) (by rw [rgL_length]; omega))
      have HBL := Hid.mk hbel
      clear hown hbel
      go_wp2_with fail
      with_reducible refine HTR.out.mono ?_
      rintro e w3 ⟨v', ys, rfl, hy1, hy2, hy3, -, hw3⟩
      obtain rfl := hw3.symm
      have HY1 := Hid.mk hy1
      have HY2 := Hid.mk hy2
      have HY3 := Hid.mk hy3
      clear hy1 hy2 hy3
      go_wp2_with fail
      go_ret
      exact ⟨_, ys, rfl, HY1.out, by rw [HY2.out, HVAL.out], HY3.out, HBL.out⟩
end Ww
end Go.Proofs.YtjgliinpaadbnaaGreatDoor
namespace Go.Proofs.YtjgliinpaadbnaaGreatDoor
open Go.ChangeShapes Go.WideShapes Go.ChangeAt Go.RowKit Go.Sort
namespace Ww
open Wm
open Bw (Tch bl2 cell_kept)
set_option maxHeartbeats 8000000 in
set_option maxRecDepth 100000 in
theorem ilsh_z (gz : Nat) (cs : List Value) (T : TypeId) (gx n : Nat) (w : World) (hx : ZAt w gx 0 1) (hB : BlkAt w gz cs T) (hi : IntV cs) (hn : n ≤ 40) :
    Calls Tryz.prog 54 #[.pointer (some ⟨gz, 0, none⟩), .pointer (some ⟨gx, 0, none⟩), .int .u64 n] w fun e w' => e = .returned (.pointer (some ⟨gz, 0, none⟩)) ∧ OutZ w w' gz 0 cs T (2 ^ n) := by
  obtain ⟨va, xs, h1, h2, h3, h4, h5⟩ := hx
  have hl := len_two h4 (show valW xs < 2 ^ 62 by rw [h5]; decide)
  have hB' : BlkAt w.drew gz cs T := hB
  have hL := left_any va xs n w.drew h3 (by omega) (by omega)
  rw [h5, show (1 : Int).natAbs * 2 ^ n = 2 ^ n by simp] at hL
  have HTW := Hid.mk hL
  have hpos : (0 : Int) < 2 ^ n := Int.pow_pos (by omega)
  have hna : ((2 : Int) ^ n).natAbs = 2 ^ n := by rw [Int.natAbs_pow]; rfl
  obtain ⟨b0, a0, l0, c0, hcs⟩ := hi
  have HGV := Hid.mk (fun v' rs W (hb : Below w.drew.heap.size w.drew W) (hW : IsW W v' rs) (ht : trimW rs) (hv : valW rs = 2 ^ n) => give_z gz 0 cs T false v' rs (2 ^ n) W (hB'.kept hb) (IntV.noW ⟨b0, a0, l0, c0, hcs⟩) ⟨b0, by rw [hcs]; rfl⟩ ⟨a0, l0, c0, by rw [hcs]; rfl⟩ hW ht (by rw [hv, hna]) (fun _ => (decide_eq_false (by omega)).symm))
  obtain ⟨a, l, c, rfl⟩ := h3.sliceB
  have d1 : w.drew.cell? ⟨gx, 0, none⟩ = some (.bool false) := h1
  have d2 : w.drew.cell? ⟨gx, 1, none⟩ = some (.slice a l c) := h2
  clear h1 h2 h3 h4 h5 hl hB hB' hL hcs hpos hna hn
  go_enter Tryz.func54, Tryz.ntmps54
  go_wp2_with fail
  go_region_with (first
    | (go_at_call 98; with_reducible refine HTW.out.mono ?_; rintro e w1 ⟨v', rs, rfl, hW1, hv1, ht1, -, hb1⟩
       have d3 := cell_kept hb1 d1
       have HG := Hid.mk (HGV.out v' rs w1 hb1 hW1 ht1 hv1)
       have HB1 := Hid.mk hb1
       clear hW1 hb1 hv1 ht1)
    | (go_at_call 97; with_reducible refine HG.out.mono ?_; rintro e w2 ⟨rfl, hO⟩
       have HO := Hid.mk hO
       clear hO))
  all_goals
    go_wp2_with fail
    go_ret
    exact ⟨rfl, HO.out.pre (bl2 (drBw1 w) HB1.out)⟩
set_option maxHeartbeats 8000000 in
set_option maxRecDepth 100000 in
theorem irsh_z (g : Nat) (cs : List Value) (T : TypeId) (r : Int) (w : World) (hx : ZAt w g 0 r) (hB : BlkAt w g cs T) (hi : IntV cs) (hr0 : 0 < r) (hr : r ≤ 4611686018427387903) :
    Calls Tryz.prog 55 #[.pointer (some ⟨g, 0, none⟩), .pointer (some ⟨g, 0, none⟩), .int .u64 1] w fun e w' => e = .returned (.pointer (some ⟨g, 0, none⟩)) ∧ OutZ w w' g 0 cs T (r / 2) := by
  obtain ⟨va, xs, h1, h2, h3, h4, h5⟩ := hx
  have hv62 : valW xs < 2 ^ 62 := by omega
  have hl := len_two h4 hv62
  have hp : 0 < xs.length := (trim_pos h4 (by obtain ⟨_, _, _, _, _, _, _, h⟩ := h3; exact h) h5).2 (by omega)
  have HTW := Hid.mk (right_one va xs w h3 hp hl hv62)
  have hdn : decide (r < 0) = false := decide_eq_false (by omega)
  rw [hdn] at h1
  obtain ⟨b0, a0, l0, c0, hcs⟩ := hi
  have HGV := Hid.mk (fun v' rs W (hb : Below w.heap.size w W) (hW : IsW W v' rs) (ht : trimW rs) (hv : valW rs = valW xs / 2) => give_z g 0 cs T false v' rs (r / 2) W (hB.kept hb) (IntV.noW ⟨b0, a0, l0, c0, hcs⟩) ⟨b0, by rw [hcs]; rfl⟩ ⟨a0, l0, c0, by rw [hcs]; rfl⟩ hW ht (by rw [hv, h5]; omega) (fun _ => (decide_eq_false (by omega)).symm))
  obtain ⟨a, l, c, rfl⟩ := h3.sliceB
  clear h3 h4 h5 hl hB hcs hr0 hr hv62 hp hdn
  go_enter Tryz.func55, Tryz.ntmps55
  go_wp2_with fail
  with_reducible refine HTW.out.mono ?_
  rintro e w1 ⟨v', rs, rfl, hW1, hv1, ht1, hb1⟩
  have HG := Hid.mk (HGV.out v' rs w1 hb1 hW1 ht1 hv1)
  have HB1 := Hid.mk hb1
  clear hW1 hb1 hv1 ht1
  go_wp2_with fail
  with_reducible refine HG.out.mono ?_
  rintro e w2 ⟨rfl, hO⟩
  have HO := Hid.mk hO
  clear hO
  go_wp2_with fail
  go_ret
  exact ⟨rfl, HO.out.pre HB1.out⟩
end Ww
end Go.Proofs.YtjgliinpaadbnaaGreatDoor
namespace Go.Proofs.YtjgliinpaadbnaaGreatDoor
open Go.ChangeShapes Go.WideShapes Go.ChangeAt Go.RowKit Go.Sort
namespace Ww
open Wm Sm
open Bw (Tch bl2 cell_kept)
theorem cmpI_zero (x y : Int) : (cmpI x y == 0) = decide (x = y) := by
  unfold cmpI
  by_cases h1 : x < y
  · rw [if_pos h1, decide_eq_false (by omega)]; rfl
  · rw [if_neg h1]
    by_cases h2 : y < x
    · rw [if_pos h2, decide_eq_false (by omega)]; rfl
    · rw [if_neg h2, decide_eq_true (by omega)]; rfl
set_option maxHeartbeats 8000000 in
set_option maxRecDepth 100000 in
theorem risint_z (g : Nat) (a b : Int) (w : World) (h : RatAt w g a b) (hb : 0 < b) (hb2 : b ≤ 4611686018427387903) :
    Calls Tryz.prog 52 #[.pointer (some ⟨g, 0, none⟩)] w fun e w' => e = .returned (.bool (decide (b = 1))) ∧ Below w.heap.size w w' := by
  have HD := Hid.mk (den_z g a b w h (by omega))
  have HN := Hid.mk (newInt_z 1 w (by omega) (by omega))
  have HC := Hid.mk (fun W (hz : ZAt W w.heap.size 0 1) (hb' : Below w.heap.size w W) => icmp_z g 2 w.heap.size 0 b 1 W (h.kept hb').den hz (by omega) hb2 (by omega) (by omega))
  have HE := Hid.mk (cmpI_zero b 1)
  generalize cmpI b 1 = C at *
  generalize hE : decide (b = 1) = E at *
  clear h hb hb2 hE
  go_enter Tryz.func52, Tryz.ntmps52
  go_wp2_with fail
  with_reducible refine HD.out.mono ?_
  rintro e w1 ⟨rfl, hw1⟩
  obtain rfl := hw1.symm
  go_wp2_with fail
  with_reducible refine HN.out.mono ?_
  rintro e w2 ⟨rfl, hz2, -, hb2⟩
  have HC2 := Hid.mk (HC.out w2 hz2 hb2)
  have HB2 := Hid.mk hb2
  clear hz2 hb2 HC
  go_wp2_with fail
  with_reducible refine HC2.out.mono ?_
  rintro e w3 ⟨rfl, hb3⟩
  have HB3 := Hid.mk (bl2 HB2.out hb3)
  clear hb3
  have hce : (C == 0) = E := HE.out
  go_wp2_with fail
  go_ret
  exact ⟨rfl, HB3.out⟩
end Ww
end Go.Proofs.YtjgliinpaadbnaaGreatDoor
namespace Go.Proofs.YtjgliinpaadbnaaGreatDoor
open Go.ChangeShapes Go.WideShapes Go.ChangeAt Go.RowKit Go.Sort
namespace Bw
open Sm Ww
theorem numL_le {n d : Int} : (numL n d).natAbs ≤ n.natAbs := by
  rw [numL_abs]
  exact Nat.div_le_self _ _
theorem denL_leU {n d : Int} (hd : 0 < d) : denL n d ≤ d := by
  have h1 := denL_abs n d
  have h2 := Nat.div_le_self d.natAbs (Int.gcd n d)
  have := denL_pos (n := n) hd
  omega
theorem low_sub (p q a : Int) (hq : 0 < q) : numL (numL p q * 1 + -(a * denL p q)) (denL p q * 1) = numL (p - a * q) q ∧ denL (numL p q * 1 + -(a * denL p q)) (denL p q * 1) = denL (p - a * q) q := by
  have hD := denL_pos (n := p) hq
  refine low_eq (by omega) hq ?_
  obtain ⟨h1, h2⟩ := @low_mul p q
  generalize numL p q = N at *
  generalize denL p q = D at *
  generalize (Int.gcd p q : Int) = G at *
  subst h1
  subst h2
  rw [Int.mul_one, Int.mul_one, ← Int.sub_eq_add_neg, Int.sub_mul, Int.sub_mul]
  congr 1 <;> ac_rfl
theorem low_times (p q a : Int) (hq : 0 < q) : numL (numL p q * a) (denL p q * 1) = numL (p * a) q ∧ denL (numL p q * a) (denL p q * 1) = denL (p * a) q := by
  have hD := denL_pos (n := p) hq
  refine low_eq (by omega) hq ?_
  obtain ⟨h1, h2⟩ := @low_mul p q
  generalize numL p q = N at *
  generalize denL p q = D at *
  generalize (Int.gcd p q : Int) = G at *
  subst h1
  subst h2
  rw [Int.mul_one]
  ac_rfl
theorem low_quo (p q a : Int) (hq : 0 < q) (ha : 0 < a) : numL (numL p q * 1) (denL p q * a) = numL p (q * a) ∧ denL (numL p q * 1) (denL p q * a) = denL p (q * a) := by
  have hD := denL_pos (n := p) hq
  refine low_eq (Int.mul_pos hD ha) (Int.mul_pos hq ha) ?_
  obtain ⟨h1, h2⟩ := @low_mul p q
  generalize numL p q = N at *
  generalize denL p q = D at *
  generalize (Int.gcd p q : Int) = G at *
  subst h1
  subst h2
  rw [Int.mul_one]
  ac_rfl
theorem low_quoN (p q a : Int) (hq : 0 < q) (ha : a < 0) : numL (-(numL p q * 1)) (-(denL p q * a)) = numL (-p) (-(q * a)) ∧ denL (-(numL p q * 1)) (-(denL p q * a)) = denL (-p) (-(q * a)) := by
  have hD := denL_pos (n := p) hq
  have e1 := Int.mul_neg_of_pos_of_neg hD ha
  have e2 := Int.mul_neg_of_pos_of_neg hq ha
  refine low_eq (by omega) (by omega) ?_
  obtain ⟨h1, h2⟩ := @low_mul p q
  generalize numL p q = N at *
  generalize denL p q = D at *
  generalize (Int.gcd p q : Int) = G at *
  subst h1
  subst h2
  rw [Int.mul_one, Int.neg_mul_neg, Int.neg_mul_neg]
  ac_rfl
/-- a fraction whose lower part is 1 is its whole -/
theorem low_int {n d : Int} (hd : 0 < d) (h : denL n d = 1) : n.tdiv d = numL n d ∧ n.tmod d = 0 := by
  obtain ⟨h1, h2⟩ := @low_mul n d
  rw [h, Int.mul_one] at h2
  rw [← h2] at h1
  have e : n = numL n d * d := by rw [Int.mul_comm]; exact h1
  clear h1 h2
  generalize numL n d = N at *
  subst e
  exact ⟨Int.mul_tdiv_cancel _ (by omega), Int.mul_tmod_left _ _⟩
theorem low_not {n d : Int} (hd : 0 < d) (h : denL n d ≠ 1) : n.tmod d ≠ 0 := fun e => h ((low_whole hd).2 (Int.dvd_of_tmod_eq_zero e))
/-- what is left of it, whichever sign the divisor bears -/
theorem quo_int {n d N D : Int} (h : (0 < d ∧ N = numL n d ∧ D = denL n d) ∨ (d < 0 ∧ N = numL (-n) (-d) ∧ D = denL (-n) (-d))) : 0 < D ∧ (D = 1 → n.tdiv d = N ∧ n.tmod d = 0) ∧ (D ≠ 1 → n.tmod d ≠ 0) ∧ N.natAbs ≤ n.natAbs ∧ D ≤ d.natAbs := by
  rcases h with ⟨hd, rfl, rfl⟩ | ⟨hd, rfl, rfl⟩
  · refine ⟨denL_pos hd, low_int hd, low_not hd, numL_le, ?_⟩
    have := denL_leU (n := n) hd
    omega
  · have hd' : 0 < -d := by omega
    refine ⟨denL_pos hd', fun h => ?_, fun h => ?_, ?_, ?_⟩
    · have := low_int hd' h
      rw [Int.neg_tdiv_neg, Int.tmod_neg, Int.neg_tmod] at this
      exact ⟨this.1, by omega⟩
    · have := low_not hd' h
      rw [Int.tmod_neg, Int.neg_tmod] at this
      omega
    · have := @numL_le (-n) (-d)
      omega
    · have := denL_leU (n := -n) hd'
      omega
end Bw
end Go.Proofs.YtjgliinpaadbnaaGreatDoor
namespace Go.Proofs.YtjgliinpaadbnaaGreatDoor
open Go.ChangeShapes Go.WideShapes Go.ChangeAt Go.RowKit Go.Sort
namespace Bw
open Sm Ww Wm
open Oi (ptr Box)
def IntAt (W : World) (g : Nat) (r : Int) : Prop := ZAt W g 0 r ∧ ∃ cs, BlkAt W g cs 85 ∧ IntV cs
theorem IntAt.kept {W W' : World} {g : Nat} {r : Int} (h : IntAt W g r) (hb : Below W.heap.size W W') : IntAt W' g r := by
  obtain ⟨h1, cs, h2, h3⟩ := h
  exact ⟨h1.kept hb, cs, h2.kept hb, h3⟩
theorem IntAt.tch {W W' : World} {g k : Nat} {r : Int} {cs : List Value} {T : TypeId} (h : IntAt W g r) (hb : BlkAt W k cs T) (hn : NoW cs) (ht : Tch [k] W W') (hne : g ≠ k) : IntAt W' g r := by
  obtain ⟨h1, cs', h2, h3⟩ := h
  exact ⟨h1.tch hb hn ht hne, cs', h2.tch ht (by simpa using hne), h3⟩
structure UnI (sz : Nat) (w0 W : World) (b0 b1 b2 b4 b5 b6 b7 b8 : Bool) (g0 gA g1 : Nat) (v53 v54 v55 v57 v58 v59 v9 v10 : Value) : Prop where
  below : Below w0.heap.size w0 W
  z0 : b0 = true → v53 = ptr g0 0 ∧ IntAt W g0 0 ∧ w0.heap.size ≤ g0
  box : Box b1 b6 (2 ^ sz) w0.heap.size W gA v54
  z1 : b2 = true → v55 = ptr g1 0 ∧ IntAt W g1 1
  l4 : b4 = true → v57 = .int .i64 (sz : Int)
  c5 : b5 = true → v58 = .int .u64 (sz : Int)
  s59 : b6 = true → v59 = ptr gA 0
  a9 : b7 = true → v9 = ptr g0 0
  a10 : b8 = true → v10 = ptr gA 0
  d0 : b0 = true → b1 = true → g0 ≠ gA
  d1 : b2 = true → b1 = true → g1 ≠ gA
  o6 : b6 = true → b1 = true
  o7 : b7 = true → b0 = true
  o8 : b8 = true → b6 = true
namespace UnI
variable {sz : Nat} {w0 W : World} {b0 b1 b2 b4 b5 b6 b7 b8 : Bool} {g0 gA g1 : Nat} {v53 v54 v55 v57 v58 v59 v9 v10 : Value}
theorem IntAt_lt {W : World} {g : Nat} {r : Int} (h : IntAt W g r) : g < W.heap.size := h.1.lt
theorem new0 (h : UnI sz w0 W b0 b1 b2 b4 b5 b6 b7 b8 g0 gA g1 v53 v54 v55 v57 v58 v59 v9 v10) (hb : b0 = false) : Calls Tryz.prog 53 #[.int .i64 0] W fun e W2 => e = .returned (.pointer (some ⟨W.heap.size, 0, none⟩)) ∧ UnI sz w0 W2 true b1 b2 b4 b5 b6 b7 b8 W.heap.size gA g1 (ptr W.heap.size 0) v54 v55 v57 v58 v59 v9 v10 := by
  have hb0 := hb
  clear hb
  refine (newInt_z 0 W (by omega) (by omega)).mono ?_
  rintro e W2 ⟨rfl, hz, hc, hb⟩
  exact ⟨rfl, { below := bl2 h.below hb, z0 := fun _ => ⟨rfl, ⟨hz, hc⟩, h.below.size⟩, box := h.box.kept hb, z1 := fun e => ⟨(h.z1 e).1, (h.z1 e).2.kept hb⟩, l4 := h.l4, c5 := h.c5, s59 := h.s59, a9 := fun e => absurd (h.o7 e) (by rw [hb0]; simp), a10 := h.a10, d0 := fun _ e => fun x => absurd (h.box.lt e) (by omega), d1 := h.d1, o6 := h.o6, o7 := fun _ => rfl, o8 := h.o8 }⟩
theorem new2 (h : UnI sz w0 W b0 b1 b2 b4 b5 b6 b7 b8 g0 gA g1 v53 v54 v55 v57 v58 v59 v9 v10) : Calls Tryz.prog 53 #[.int .i64 1] W fun e W2 => e = .returned (.pointer (some ⟨W.heap.size, 0, none⟩)) ∧ UnI sz w0 W2 b0 b1 true b4 b5 b6 b7 b8 g0 gA W.heap.size v53 v54 (ptr W.heap.size 0) v57 v58 v59 v9 v10 := by
  refine (newInt_z 1 W (by omega) (by omega)).mono ?_
  rintro e W2 ⟨rfl, hz, hc, hb⟩
  exact ⟨rfl, { below := bl2 h.below hb, z0 := fun e => ⟨(h.z0 e).1, (h.z0 e).2.1.kept hb, (h.z0 e).2.2⟩, box := h.box.kept hb, z1 := fun _ => ⟨rfl, ⟨hz, hc⟩⟩, l4 := h.l4, c5 := h.c5, s59 := h.s59, a9 := h.a9, a10 := h.a10, d0 := h.d0, d1 := fun _ e => fun x => absurd (h.box.lt e) (by omega), o6 := h.o6, o7 := h.o7, o8 := h.o8 }⟩
theorem new1 (h : UnI sz w0 W b0 b1 b2 b4 b5 b6 b7 b8 g0 gA g1 v53 v54 v55 v57 v58 v59 v9 v10) (hb : b1 = false) : UnI sz w0 (W.alloc (.cells #[.bool false, .slice none 0 0] 85)) b0 true b2 b4 b5 b6 b7 b8 g0 W.heap.size g1 v53 (ptr W.heap.size 0) v55 v57 v58 v59 v9 v10 :=
  { below := h.below.alloc h.below.size _, z0 := fun e => ⟨(h.z0 e).1, (h.z0 e).2.1.kept (zvB W), (h.z0 e).2.2⟩, box := Box.fresh h.below.size h.o6 hb, z1 := fun e => ⟨(h.z1 e).1, (h.z1 e).2.kept (zvB W)⟩, l4 := h.l4, c5 := h.c5, s59 := fun e => absurd (h.o6 e) (by rw [hb]; simp), a9 := h.a9, a10 := fun e => absurd (h.o6 (h.o8 e)) (by rw [hb]; simp), d0 := fun e _ => fun x => absurd (IntAt_lt (h.z0 e).2.1) (by omega), d1 := fun e _ => fun x => absurd (IntAt_lt (h.z1 e).2) (by omega), o6 := fun _ => rfl, o7 := h.o7, o8 := h.o8 }
theorem lsh6 (h : UnI sz w0 W b0 b1 b2 b4 b5 b6 b7 b8 g0 gA g1 v53 v54 v55 v57 v58 v59 v9 v10) (hn : sz ≤ 40) (e1 : b1 = true) (e2 : b2 = true) (e5 : b5 = true) :
    v54 = ptr gA 0 ∧ v55 = ptr g1 0 ∧ v58 = .int .u64 (sz : Int) ∧ Calls Tryz.prog 54 #[.pointer (some ⟨gA, 0, none⟩), .pointer (some ⟨g1, 0, none⟩), .int .u64 (sz : Int)] W fun e W2 => e = .returned (.pointer (some ⟨gA, 0, none⟩)) ∧ UnI sz w0 W2 b0 b1 b2 b4 b5 true b7 b8 g0 gA g1 v53 v54 v55 v57 v58 (ptr gA 0) v9 v10 := by
  obtain ⟨q1, q2, ⟨cs, hB, hi⟩, _⟩ := h.box e1
  refine ⟨q1, (h.z1 e2).1, h.c5 e5, (ilsh_z gA cs _ g1 sz W (h.z1 e2).2.1 hB hi hn).mono ?_⟩
  rintro e W2 ⟨rfl, hO⟩
  exact ⟨rfl, { below := hO.below h.below q2, z0 := fun e => ⟨(h.z0 e).1, (h.z0 e).2.1.tch hB hi.noW hO.1 (h.d0 e e1), (h.z0 e).2.2⟩, box := fun _ => ⟨q1, q2, (hO.int hi).2, fun _ => (hO.int hi).1⟩, z1 := fun e => ⟨(h.z1 e).1, (h.z1 e).2.tch hB hi.noW hO.1 (h.d1 e e1)⟩, l4 := h.l4, c5 := h.c5, s59 := fun _ => rfl, a9 := h.a9, a10 := h.a10, d0 := h.d0, d1 := h.d1, o6 := fun _ => e1, o7 := h.o7, o8 := fun _ => rfl }⟩
theorem load4 (h : UnI sz w0 W b0 b1 b2 b4 b5 b6 b7 b8 g0 gA g1 v53 v54 v55 v57 v58 v59 v9 v10) : UnI sz w0 W b0 b1 b2 true b5 b6 b7 b8 g0 gA g1 v53 v54 v55 (.int .i64 (sz : Int)) v58 v59 v9 v10 := { below := h.below, z0 := h.z0, box := h.box, z1 := h.z1, l4 := fun _ => rfl, c5 := h.c5, s59 := h.s59, a9 := h.a9, a10 := h.a10, d0 := h.d0, d1 := h.d1, o6 := h.o6, o7 := h.o7, o8 := h.o8 }
theorem conv5 (h : UnI sz w0 W b0 b1 b2 b4 b5 b6 b7 b8 g0 gA g1 v53 v54 v55 v57 v58 v59 v9 v10) : UnI sz w0 W b0 b1 b2 b4 true b6 b7 b8 g0 gA g1 v53 v54 v55 v57 (.int .u64 (sz : Int)) v59 v9 v10 := { below := h.below, z0 := h.z0, box := h.box, z1 := h.z1, l4 := h.l4, c5 := fun _ => rfl, s59 := h.s59, a9 := h.a9, a10 := h.a10, d0 := h.d0, d1 := h.d1, o6 := h.o6, o7 := h.o7, o8 := h.o8 }
theorem set7 (h : UnI sz w0 W b0 b1 b2 b4 b5 b6 b7 b8 g0 gA g1 v53 v54 v55 v57 v58 v59 v9 v10) (e : b0 = true) : UnI sz w0 W b0 b1 b2 b4 b5 b6 true b8 g0 gA g1 v53 v54 v55 v57 v58 v59 v53 v10 := { below := h.below, z0 := h.z0, box := h.box, z1 := h.z1, l4 := h.l4, c5 := h.c5, s59 := h.s59, a9 := fun _ => (h.z0 e).1, a10 := h.a10, d0 := h.d0, d1 := h.d1, o6 := h.o6, o7 := fun _ => e, o8 := h.o8 }
theorem set8 (h : UnI sz w0 W b0 b1 b2 b4 b5 b6 b7 b8 g0 gA g1 v53 v54 v55 v57 v58 v59 v9 v10) (e : b6 = true) : UnI sz w0 W b0 b1 b2 b4 b5 b6 b7 true g0 gA g1 v53 v54 v55 v57 v58 v59 v9 v59 := { below := h.below, z0 := h.z0, box := h.box, z1 := h.z1, l4 := h.l4, c5 := h.c5, s59 := h.s59, a9 := h.a9, a10 := fun _ => h.s59 e, d0 := h.d0, d1 := h.d1, o6 := h.o6, o7 := h.o7, o8 := fun _ => e }
end UnI
theorem quo_set (p q a : Int) (hq : 0 < q) (ha : a ≠ 0) (h1 : -4611686018427387903 ≤ p) (h2 : p ≤ 4611686018427387903) (h3 : q ≤ 1000000) (h4 : -1000000 ≤ a) (h5 : a ≤ 1000000) :
    ∃ N D, ((0 < q * a ∧ N = numL p (q * a) ∧ D = denL p (q * a)) ∨ (q * a < 0 ∧ N = numL (-p) (-(q * a)) ∧ D = denL (-p) (-(q * a)))) ∧
      ∀ (W : World) (gz gA gB : Nat) (cs : List Value), BlkAt W gz cs 87 → RatV cs → ZAt W gA 0 (numL p q * 1) → ZAt W gB 0 (denL p q * a) → Calls Tryz.prog 92 #[.pointer (some ⟨gz, 0, none⟩), .pointer (some ⟨gA, 0, none⟩), .pointer (some ⟨gB, 0, none⟩)] W fun e w' => e = .returned (.pointer (some ⟨gz, 0, none⟩)) ∧ RatAt w' gz N D ∧ Tch [gz] W w' := by
  have hD := denL_pos (n := p) hq
  have hDl := denL_leU (n := p) hq
  have hNl := @numL_le p q
  have hb := mul_bound (a := denL p q) (b := a) (A := 1000000) (B := 1000000) (by omega) (by omega) (by omega) (by omega)
  rcases Int.lt_or_lt_of_ne ha with ha' | ha'
  · have e1 := Int.mul_neg_of_pos_of_neg hD ha'
    have e2 := Int.mul_neg_of_pos_of_neg hq ha'
    refine ⟨_, _, .inr ⟨e2, rfl, rfl⟩, fun W gz gA gB cs k1 k2 k3 k4 => ?_⟩
    have := setFrac_neg gz cs gA 0 gB 0 (numL p q * 1) (denL p q * a) W k1 k2 k3 k4 e1 (by omega) (by omega) (by omega)
    rw [(low_quoN p q a hq ha').1, (low_quoN p q a hq ha').2] at this
    exact this
  · have e1 := Int.mul_pos hD ha'
    have e2 := Int.mul_pos hq ha'
    refine ⟨_, _, .inl ⟨e2, rfl, rfl⟩, fun W gz gA gB cs k1 k2 k3 k4 => ?_⟩
    have := setFrac_pos gz cs gA 0 gB 0 (numL p q * 1) (denL p q * a) W k1 k2 k3 k4 e1 (by omega) (by omega) (by omega)
    rw [(low_quo p q a hq ha').1, (low_quo p q a hq ha').2] at this
    exact this
set_option maxHeartbeats 4000000 in
set_option maxRecDepth 100000 in
theorem unmean_bad (s : Sig) (num den : Int) (w : World) (hf : fracB num den = false) :
    Calls Tryz.prog 17 #[sgV s, .int .i64 num, .int .i64 den] w fun e w' => e = .returned (.tuple #[.int .i64 0, .int .i64 3]) ∧ Below w.heap.size w w' := by
  have HB := Hid.mk (sg_box w s)
  have hc : den < 1 ∨ (¬ den < 1 ∧ 1000000 < den) ∨ (¬ den < 1 ∧ ¬ 1000000 < den ∧ 1099511627776 < num) ∨ (¬ den < 1 ∧ ¬ 1000000 < den ∧ ¬ 1099511627776 < num ∧ num < -1099511627776) := by
    by_cases k1 : den < 1
    · exact .inl k1
    · by_cases k2 : 1000000 < den
      · exact .inr (.inl ⟨k1, k2⟩)
      · by_cases k3 : 1099511627776 < num
        · exact .inr (.inr (.inl ⟨k1, k2, k3⟩))
        · refine .inr (.inr (.inr ⟨k1, k2, k3, ?_⟩))
          rcases Int.lt_or_le num (-1099511627776) with k4 | k4
          · exact k4
          · unfold fracB at hf
            rw [inB_yes ⟨by omega, by omega⟩, inB_yes ⟨by omega, by omega⟩] at hf
            cases hf
  clear hf
  obtain ⟨nm, sta, sza, bk, sg, mu, di, ad, ky⟩ := s
  unfold sgC at HB
  unfold sgV
  simp only at HB ⊢
  rcases hc with k1 | ⟨k1, k2⟩ | ⟨k1, k2, k3⟩ | ⟨k1, k2, k3, k4⟩
  all_goals
    go_enter Tryz.func17, Tryz.ntmps17
    go_wp2_with fail
    go_ret2
    exact ⟨rfl, HB.out⟩
end Bw
end Go.Proofs.YtjgliinpaadbnaaGreatDoor
namespace Go.Proofs.YtjgliinpaadbnaaGreatDoor
open Go.ChangeShapes Go.WideShapes Go.ChangeAt Go.RowKit Go.Sort
namespace Bw
open Sm Ww Wm
open Oi (ptr Box)
theorem cmpI_lt {x y : Int} (h : x < y) : cmpI x y = -1 := by unfold cmpI; rw [if_pos h]
theorem cmpI_ge {x y : Int} (h : ¬ x < y) : 0 ≤ cmpI x y ∧ cmpI x y ≤ 1 := by
  unfold cmpI
  rw [if_neg h]
  split <;> omega
set_option maxHeartbeats 16000000 in
set_option maxRecDepth 100000 in
theorem unmean_ok (s : Sig) (st sz n : Nat) (num den : Int) (w : World) (hR : Rt s st sz n) (hf : fracB num den = true) :
    Calls Tryz.prog 17 #[sgV s, .int .i64 num, .int .i64 den] w fun e w' => e = .returned (.tuple #[.int .i64 (if rawE s sz num den = 0 then rawV s num den else 0), .int .i64 (rawE s sz num den)]) ∧ Below w.heap.size w w' := by
  have HB := Hid.mk (sg_box w s)
  have HG := Hid.mk (SgAt.box w s)
  obtain ⟨⟨wa1, wa2⟩, ⟨wb1, wb2⟩, ⟨wp1, wp2⟩, wp0⟩ := whole_bound hR hf
  have hfb : (1 ≤ den ∧ den ≤ 1000000) ∧ (-1099511627776 ≤ num ∧ num ≤ 1099511627776) := by
    unfold fracB at hf
    simp only [Bool.and_eq_true, inB_iff] at hf
    exact hf
  have hdi1 := hR.di1
  have hdi2 := hR.di2
  have had1 := hR.ad1
  have had2 := hR.ad2
  have hmu0 := hR.mu0
  have hmu1 := hR.mu1
  have hmu2 := hR.mu2
  have hs1 := hR.s1
  have hs40 := hR.s40
  have hsz := hR.hsz
  have hq : 0 < den := by omega
  obtain ⟨N4, D4, hcase, hQS⟩ := quo_set (wholeI s num den) den s.mu hq hmu0 (by omega) (by omega) (by omega) hmu1 hmu2
  have hint := quo_int hcase
  obtain ⟨E, hE⟩ : ∃ E, E = rawE s sz num den := ⟨_, rfl⟩
  obtain ⟨V, hV⟩ : ∃ V, V = if rawE s sz num den = 0 then rawV s num den else 0 := ⟨_, rfl⟩
  rw [← hV, ← hE]
  have hd1 : D4 ≠ 1 → E = 4 ∧ V = 0 := by
    intro h
    have e4 : rawE s sz num den = 4 := by unfold rawE partI; rw [if_neg (by rw [hf]; simp), if_pos (hint.2.2.1 h)]
    rw [hE, hV, e4]
    exact ⟨rfl, rfl⟩
  have hd2 : D4 = 1 → ((lowS s.sg sz ≤ N4 ∧ N4 ≤ highS s.sg sz) → E = 0 ∧ V = N4) ∧ (¬ (lowS s.sg sz ≤ N4 ∧ N4 ≤ highS s.sg sz) → E = 3 ∧ V = 0) := by
    intro h
    obtain ⟨t1, t2⟩ := hint.2.1 h
    have eV : rawV s num den = N4 := by unfold rawV partI; exact t1
    constructor
    · intro hin
      have e0 : rawE s sz num den = 0 := by unfold rawE partI; rw [if_neg (by rw [hf]; simp), if_neg (by rw [t2]; simp), t1, if_neg (by rw [inB_yes hin]; simp)]
      rw [hE, hV, e0, eV]
      exact ⟨rfl, rfl⟩
    · intro hin
      have e3 : rawE s sz num den = 3 := by unfold rawE partI; rw [if_neg (by rw [hf]; simp), if_neg (by rw [t2]; simp), t1, if_pos (inB_no hin)]
      rw [hE, hV, e3]
      exact ⟨rfl, rfl⟩
  obtain ⟨hD4, -, -, hN4, hD4b⟩ := hint
  clear hcase hE hV hf hR wp0
  unfold wholeI at hN4 hQS wb1 wb2
  unfold partI at wp1 wp2
  have hNb : (-4611686018427387903 ≤ N4 ∧ N4 ≤ 4611686018427387903) ∧ 0 < D4 ∧ D4 ≤ 4611686018427387903 := by omega
  have hn1 := @numL_le num den
  have hl1 := denL_leU (n := num) hq
  have hp1 := denL_pos (n := num) hq
  have hn2 := @numL_le (num - s.ad * den) den
  have hl2 := denL_leU (n := num - s.ad * den) hq
  have hp2 := denL_pos (n := num - s.ad * den) hq
  have hn3 := @numL_le ((num - s.ad * den) * s.di) den
  have hl3 := denL_leU (n := (num - s.ad * den) * s.di) hq
  have hp3 := denL_pos (n := (num - s.ad * den) * s.di) hq
  have hls := low_sub num den s.ad hq
  have hlt := low_times (num - s.ad * den) den s.di hq
  have hm1 := mul_bound (a := s.ad) (b := denL num den) (A := 1000000) (B := 1000000) (by omega) (by omega) (by omega) (by omega)
  have hm2 := mul_bound (a := numL (num - s.ad * den) den) (b := s.di) (A := 2199511627776) (B := 1000000) (by omega) (by omega) (by omega) (by omega)
  have HLS1 := Hid.mk hls.1
  have HLS2 := Hid.mk hls.2
  have HLT1 := Hid.mk hlt.1
  have HLT2 := Hid.mk hlt.2
  have HBS : Hid (BdSub (numL num den) (denL num den) s.ad 1) := Hid.mk ⟨by omega, by omega, hp1, by omega, by omega, by omega, by omega, by omega, by omega, by omega, by omega, by omega, by omega, by omega, by omega⟩
  have HBM : Hid (BdMul (numL (num - s.ad * den) den) (denL (num - s.ad * den) den) s.di 1) := Hid.mk ⟨by omega, by omega, hp2, by omega, by omega, by omega, by omega, by omega⟩
  have HBQ : Hid (BdQuo (numL ((num - s.ad * den) * s.di) den) (denL ((num - s.ad * den) * s.di) den) s.mu 1) := Hid.mk ⟨by omega, by omega, hp3, by omega, by omega, by omega, by omega, by omega⟩
  have HSM := Hid.mk (fun W g cs gA gB k1 k2 k3 k4 => setFrac_pos g cs gA 0 gB 0 (numL (num - s.ad * den) den * s.di) (denL (num - s.ad * den) den * 1) W k1 k2 k3 k4 (by omega) (by omega) (by omega) (by omega))
  have HSQ := Hid.mk hQS
  have HNB := Hid.mk hNb
  have HD1 := Hid.mk hd1
  have HD2 := Hid.mk hd2
  have HF := Hid.mk (fun W cs g h1 h2 => setFrac64_z g cs num den W h1 h2 hq (by omega) (by omega) (by omega))
  have HI := Hid.mk (fun x (b1 : -1000000 ≤ x) (b2 : x ≤ 1000000) W cs g h1 h2 => rset_z g cs x W h1 h2 (by omega) (by omega))
  obtain ⟨⟨f1, f2⟩, f3, f4⟩ := hfb
  have HAD := Hid.mk (And.intro had1 had2)
  have HDI := Hid.mk (show -1000000 ≤ s.di ∧ s.di ≤ 1000000 by omega)
  have HMU := Hid.mk (And.intro hmu1 hmu2)
  clear hn1 hl1 hp1 hn2 hl2 hp2 hn3 hl3 hp3 hls hlt hm1 hm2 hQS hNb hd1 hd2 hN4 hD4 hD4b wa1 wa2 wb1 wb2 wp1 wp2 hq hdi1 hdi2 had1 had2 hmu0 hmu1 hmu2
  obtain ⟨nm, sta, sza, bk, sg, mu, di, ad, ky⟩ := s
  simp only at hsz HLS1 HLS2 HLT1 HLT2 HBS HBM HBQ HSM HSQ HD2 HAD HDI HMU
  subst hsz
  unfold sgC at HB HG
  unfold sgV
  simp only at HB HG ⊢
  generalize numL ((num - ad * den) * di) den = N3 at *
  generalize denL ((num - ad * den) * di) den = D3 at *
  generalize numL (num - ad * den) den = N2 at *
  generalize denL (num - ad * den) den = D2 at *
  generalize numL num den = N1 at *
  generalize denL num den = D1 at *
  go_enter Tryz.func17, Tryz.ntmps17
  obtain ⟨w1, hw1⟩ : ∃ w1, w1 = w.alloc (.cells #[.string nm, .int .i64 sta, .int .i64 (sz : Int), .bool bk, .bool sg, .int .i64 mu, .int .i64 di, .int .i64 ad, .int .i64 ky] 42) := ⟨_, rfl⟩
  rw [← hw1] at HB HG
  have HS1 := Hid.mk (show w1.heap.size = w.heap.size + 1 by rw [hw1]; simp)
  go_wp2_with (rw [← hw1]; clear hw1)
  with_reducible refine (HF.out _ rzC w1.heap.size (rz_new w1) rz_rat).mono ?_
  rintro e w2 ⟨rfl, hR2, ht2⟩
  have hB2 := Tch.below (rzB w1) ht2 (by simp) (Nat.le_refl _)
  have HR2 := Hid.mk hR2
  have HB2 := Hid.mk hB2
  have HG2 := Hid.mk (HG.out.kept hB2)
  clear hR2 ht2 hB2 HF
  obtain ⟨c0, c1, c2, c3, c4, c5, c6, c7, c8⟩ := HG2.out.kept (rzB w2)
  simp only at c0 c1 c2 c3 c4 c5 c6 c7 c8
  go_wp2_with fail
  with_reducible refine (HI.out ad HAD.out.1 HAD.out.2 _ rzC w2.heap.size (rz_new w2) rz_rat).mono ?_
  rintro e w3 ⟨rfl, hR3, ht3⟩
  have hB3 := Tch.below (rzB w2) ht3 (by simp) (Nat.le_refl _)
  have hRr := HR2.out.kept hB3
  obtain ⟨cs, hcb, hcv⟩ := hRr.var
  have hA := rsub_z w1.heap.size w1.heap.size w2.heap.size cs N1 D1 ad 1 w3 hcb hcv hRr hR3 HBS.out
  rw [HLS1.out, HLS2.out] at hA
  clear hcb hcv
  have HA := Hid.mk hA
  have HB3 := Hid.mk (bl2 HB2.out hB3)
  clear c0 c1 c2 c3 c4 c5 c6 c7 c8 hR3 ht3 hB3 hRr hA
  go_wp2_with fail
  with_reducible refine HA.out.mono ?_
  rintro e w4 ⟨rfl, hR4, ht4⟩
  have hB4 := Tch.below HB3.out ht4 (by simp) (Nat.le_refl _)
  have HR4 := Hid.mk hR4
  have HB4 := Hid.mk hB4
  have HG4 := Hid.mk (HG.out.kept hB4)
  clear hR4 ht4 hB4 HA
  obtain ⟨c0, c1, c2, c3, c4, c5, c6, c7, c8⟩ := HG4.out.kept (rzB w4)
  simp only at c0 c1 c2 c3 c4 c5 c6 c7 c8
  go_wp2_with fail
  with_reducible refine (HI.out di HDI.out.1 HDI.out.2 _ rzC w4.heap.size (rz_new w4) rz_rat).mono ?_
  rintro e w5 ⟨rfl, hR3, ht3⟩
  have hB3 := Tch.below (rzB w4) ht3 (by simp) (Nat.le_refl _)
  have hRr := HR4.out.kept hB3
  have hA := rmul_z w1.heap.size w1.heap.size w4.heap.size N2 D2 di 1 N3 D3 w5 hRr hR3 HBM.out (fun W gA gB hb k3 k4 => by
    obtain ⟨cs, hcb, hcv⟩ := hRr.var
    have := HSM.out W w1.heap.size cs gA gB (hcb.kept hb) hcv k3 k4
    rw [HLT1.out, HLT2.out] at this
    exact this)
  have HA := Hid.mk hA
  have HB5 := Hid.mk (bl2 HB4.out hB3)
  clear c0 c1 c2 c3 c4 c5 c6 c7 c8 hR3 ht3 hB3 hRr hA
  go_wp2_with fail
  with_reducible refine HA.out.mono ?_
  rintro e w6 ⟨rfl, hR4, ht4⟩
  have hB4 := Tch.below HB5.out ht4 (by simp) (Nat.le_refl _)
  have HR6 := Hid.mk hR4
  have HB6 := Hid.mk hB4
  have HG6 := Hid.mk (HG.out.kept hB4)
  clear hR4 ht4 hB4 HA
  obtain ⟨c0, c1, c2, c3, c4, c5, c6, c7, c8⟩ := HG6.out.kept (rzB w6)
  simp only at c0 c1 c2 c3 c4 c5 c6 c7 c8
  go_wp2_with fail
  with_reducible refine (HI.out mu HMU.out.1 HMU.out.2 _ rzC w6.heap.size (rz_new w6) rz_rat).mono ?_
  rintro e w7 ⟨rfl, hR3, ht3⟩
  have hB3 := Tch.below (rzB w6) ht3 (by simp) (Nat.le_refl _)
  have hRr := HR6.out.kept hB3
  have hA := rquo_z w1.heap.size w1.heap.size w6.heap.size N3 D3 mu 1 N4 D4 w7 hRr hR3 HBQ.out (fun W gA gB hb k3 k4 => by
    obtain ⟨cs, hcb, hcv⟩ := hRr.var
    exact HSQ.out W w1.heap.size gA gB cs (hcb.kept hb) hcv k3 k4)
  have HA := Hid.mk hA
  have HB7 := Hid.mk (bl2 HB6.out hB3)
  clear c0 c1 c2 c3 c4 c5 c6 c7 c8 hR3 ht3 hB3 hRr hA
  go_wp2_with fail
  with_reducible refine HA.out.mono ?_
  rintro e w8 ⟨rfl, hR4, ht4⟩
  have hB4 := Tch.below HB7.out ht4 (by simp) (Nat.le_refl _)
  have HR8 := Hid.mk hR4
  have HB8 := Hid.mk hB4
  have HG8 := Hid.mk (HG.out.kept hB4)
  clear hR4 ht4 hB4 HA
  have HIS := Hid.mk (risint_z w1.heap.size N4 D4 w8 HR8.out HNB.out.2.1 HNB.out.2.2)
  by_cases hD : D4 = 1
  · have HE := Hid.mk (HD2.out hD)
    have hdd : decide (D4 = 1) = true := decide_eq_true hD
    rw [hdd] at HIS
    clear hD hdd HD1 HD2
    go_wp2_with fail
    with_reducible refine HIS.out.mono ?_
    rintro e w9 ⟨rfl, hb9⟩
    have HB9 := Hid.mk (bl2 HB8.out hb9)
    have HR9 := Hid.mk (HR8.out.kept hb9)
    have HG9 := Hid.mk (HG8.out.kept hb9)
    clear hb9 HB2 HB3 HB4 HB5 HB6 HB7 HB8 HR2 HR4 HR6 HR8 HG2 HG4 HG6 HG8 HIS HSM HSQ HBS HBM HBQ HLS1 HLS2 HLT1 HLT2 HI
    go_wp2_with fail
    have a1 : (1 : Int) ≤ (sz : Int) := by omega
    have a2 : (sz : Int) ≤ 40 := by omega
    refine wp_region_any (by kernel_rfl) ?_
    refine wpAny_take (i := 3) (v := .pointer (some ⟨w.heap.size, 2, none⟩)) rfl (by kernel_rfl) (by kernel_rfl) (by kernel_rfl) (fun _ _ _ h => h) (Or.inl ⟨by rfl, fun _ => by rfl⟩) ?_
    simp only [List.getElem_toArray, List.getElem_cons_zero, List.getElem_cons_succ, Act.put, List.setIfInBounds_toArray, List.set_cons_zero, List.set_cons_succ]
    refine Oi.wpAny_start (fun l a W => ∃ b0 b1 b2 b4 b5 b6 b7 b8 g0 gA g1 v53 v54 v55 v57 v58 v59 v9 v10, l = #[b0, b1, b2, true, b4, b5, b6, b7, b8] ∧ a = ⟨#[.agg #[.string nm, .int .i64 sta, .int .i64 (sz : Int), .bool bk, .bool sg, .int .i64 mu, .int .i64 di, .int .i64 ad, .int .i64 ky], .int .i64 num, .int .i64 den, .pointer (some ⟨w.heap.size, 0, none⟩), undef, undef, .int .i64 0, .int .i64 0, .pointer (some ⟨w1.heap.size, 0, none⟩), v9, v10, .int .i64 den, .bool (decide (den < 1)), .bool (decide (den < 1)), .int .i64 den, .bool (decide (1000000 < den)), .bool (decide (den < 1) || decide (1000000 < den)), .bool (decide (den < 1) || decide (1000000 < den)), .int .i64 num, .bool (decide (1099511627776 < num)), .bool (decide (den < 1) || decide (1000000 < den) || decide (1099511627776 < num)), .bool (decide (den < 1) || decide (1000000 < den) || decide (1099511627776 < num)), .int .i64 num, .bool (decide (num < -1099511627776)), .bool (decide (den < 1) || decide (1000000 < den) || decide (1099511627776 < num) || decide (num < -1099511627776)), .pointer (some ⟨w1.heap.size, 0, none⟩), .int .i64 num, .int .i64 den, .pointer (some ⟨w1.heap.size, 0, none⟩), .pointer (some ⟨w1.heap.size, 0, none⟩), .pointer (some ⟨w1.heap.size, 0, none⟩), .pointer (some ⟨w2.heap.size, 0, none⟩), .pointer (some ⟨w.heap.size, 7, none⟩), .int .i64 ad, .pointer (some ⟨w2.heap.size, 0, none⟩), .pointer (some ⟨w1.heap.size, 0, none⟩), .pointer (some ⟨w1.heap.size, 0, none⟩), .pointer (some ⟨w1.heap.size, 0, none⟩), .pointer (some ⟨w4.heap.size, 0, none⟩), .pointer (some ⟨w.heap.size, 6, none⟩), .int .i64 di, .pointer (some ⟨w4.heap.size, 0, none⟩), .pointer (some ⟨w1.heap.size, 0, none⟩), .pointer (some ⟨w1.heap.size, 0, none⟩), .pointer (some ⟨w1.heap.size, 0, none⟩), .pointer (some ⟨w6.heap.size, 0, none⟩), .pointer (some ⟨w.heap.size, 5, none⟩), .int .i64 mu, .pointer (some ⟨w6.heap.size, 0, none⟩), .pointer (some ⟨w1.heap.size, 0, none⟩), .pointer (some ⟨w1.heap.size, 0, none⟩), .bool true, .bool false, v53, v54, v55, .pointer (some ⟨w.heap.size, 2, none⟩), v57, v58, v59, undef, undef, undef, undef, undef, undef, undef, undef, undef, undef, undef, undef, undef, undef, undef, undef, undef, undef, undef, undef, undef, undef, undef], []⟩ ∧ UnI sz w9 W b0 b1 b2 b4 b5 b6 b7 b8 g0 gA g1 v53 v54 v55 v57 v58 v59 v9 v10) #[false, false, false, true, false, false, false, false, false] (by kernel_rfl) (by kernel_rfl) ⟨false, false, false, false, false, false, false, false, 0, 0, 0, undef, undef, undef, undef, undef, undef, undef, undef, rfl, rfl, ?_⟩ ?_ ?_
    · exact { below := ⟨rfl, rfl, rfl, Nat.le_refl _, fun _ _ => rfl⟩, z0 := fun e => Bool.noConfusion e, box := fun e => Bool.noConfusion e, z1 := fun e => Bool.noConfusion e, l4 := fun e => Bool.noConfusion e, c5 := fun e => Bool.noConfusion e, s59 := fun e => Bool.noConfusion e, a9 := fun e => Bool.noConfusion e, a10 := fun e => Bool.noConfusion e, d0 := fun e => Bool.noConfusion e, d1 := fun e => Bool.noConfusion e, o6 := fun e => Bool.noConfusion e, o7 := fun e => Bool.noConfusion e, o8 := fun e => Bool.noConfusion e }
    rotate_left
    · rintro l a W i o ⟨b0, b1, b2, b4, b5, b6, b7, b8, g0, gA, g1, v53, v54, v55, v57, v58, v59, v9, v10, rfl, rfl, hI⟩ h0 ho hall K hK
      have hi : i < 9 := (Array.getElem?_eq_some_iff.1 ho).1
      have hii : i = 0 ∨ i = 1 ∨ i = 2 ∨ i = 3 ∨ i = 4 ∨ i = 5 ∨ i = 6 ∨ i = 7 ∨ i = 8 := by omega
      clear hi
      rcases hii with rfl | rfl | rfl | rfl | rfl | rfl | rfl | rfl | rfl
      · simp only [List.getElem?_toArray, List.getElem?_cons_zero, Option.some.injEq] at ho
        subst ho
        have HC := Hid.mk (hI.new0 h0)
        clear hall h0 hI
        go_simp
        go_wp2_with fail
        with_reducible refine HC.out.mono ?_
        rintro e W2 ⟨rfl, hI2⟩
        have HI2 := Hid.mk hI2
        clear hI2
        go_wp2_with fail
        exact hK.out _ _ ⟨_, _, _, _, _, _, _, _, _, _, _, _, _, _, _, _, _, _, _, rfl, rfl, HI2.out⟩
      · simp only [List.getElem?_toArray, List.getElem?_cons_zero, List.getElem?_cons_succ, Option.some.injEq] at ho
        subst ho
        have HN := Hid.mk (hI.new1 h0)
        clear hall h0 hI
        go_simp
        exact hK.out _ _ ⟨_, _, _, _, _, _, _, _, _, _, _, _, _, _, _, _, _, _, _, rfl, rfl, HN.out⟩
      · simp only [List.getElem?_toArray, List.getElem?_cons_zero, List.getElem?_cons_succ, Option.some.injEq] at ho
        subst ho
        have HC := Hid.mk hI.new2
        clear hall h0 hI
        go_simp
        go_wp2_with fail
        with_reducible refine HC.out.mono ?_
        rintro e W2 ⟨rfl, hI2⟩
        have HI2 := Hid.mk hI2
        clear hI2
        go_wp2_with fail
        exact hK.out _ _ ⟨_, _, _, _, _, _, _, _, _, _, _, _, _, _, _, _, _, _, _, rfl, rfl, HI2.out⟩
      · exact Bool.noConfusion h0
      · simp only [List.getElem?_toArray, List.getElem?_cons_zero, List.getElem?_cons_succ, Option.some.injEq] at ho
        subst ho
        have HN := Hid.mk hI.load4
        have c2 := (HG9.out.kept hI.below).c2
        simp only at c2
        clear hall h0 hI
        go_simp
        exact hK.out _ _ ⟨_, _, _, _, _, _, _, _, _, _, _, _, _, _, _, _, _, _, _, rfl, rfl, HN.out⟩
      · simp only [List.getElem?_toArray, List.getElem?_cons_zero, List.getElem?_cons_succ, Option.some.injEq] at ho
        subst ho
        have e4 : b4 = true := hall ⟨4, .data⟩ (by simp) rfl
        have HN := Hid.mk hI.conv5
        have hv := hI.l4 e4
        subst hv
        clear hall h0 hI
        have hcv : IntKind.u64.wrap (sz : Int) = (sz : Int) := by rw [IntKind.wrap_u64]; omega
        go_simp
        try rw [hcv]
        exact hK.out _ _ ⟨_, _, _, _, _, _, _, _, _, _, _, _, _, _, _, _, _, _, _, rfl, rfl, HN.out⟩
      · simp only [List.getElem?_toArray, List.getElem?_cons_zero, List.getElem?_cons_succ, Option.some.injEq] at ho
        subst ho
        have e1 : b1 = true := hall ⟨1, .data⟩ (by simp) rfl
        have e2 : b2 = true := hall ⟨2, .data⟩ (by simp) rfl
        have e5 : b5 = true := hall ⟨5, .data⟩ (by simp) rfl
        obtain ⟨hv1, hv2, hv3, hC⟩ := hI.lsh6 hs40 e1 e2 e5
        unfold ptr at hv1 hv2
        have HC := Hid.mk hC
        subst hv1 hv2 hv3
        clear hC hall h0 hI
        go_simp
        go_wp2_with fail
        with_reducible refine HC.out.mono ?_
        rintro e W2 ⟨rfl, hI2⟩
        have HI2 := Hid.mk hI2
        clear hI2
        go_wp2_with fail
        exact hK.out _ _ ⟨_, _, _, _, _, _, _, _, _, _, _, _, _, _, _, _, _, _, _, rfl, rfl, HI2.out⟩
      · simp only [List.getElem?_toArray, List.getElem?_cons_zero, List.getElem?_cons_succ, Option.some.injEq] at ho
        subst ho
        have e0 : b0 = true := hall ⟨0, .data⟩ (by simp) rfl
        have HN := Hid.mk (hI.set7 e0)
        clear hall h0 hI
        go_simp
        exact hK.out _ _ ⟨_, _, _, _, _, _, _, _, _, _, _, _, _, _, _, _, _, _, _, rfl, rfl, HN.out⟩
      · simp only [List.getElem?_toArray, List.getElem?_cons_zero, List.getElem?_cons_succ, Option.some.injEq] at ho
        subst ho
        have e6 : b6 = true := hall ⟨6, .data⟩ (by simp) rfl
        have HN := Hid.mk (hI.set8 e6)
        clear hall h0 hI
        go_simp
        exact hK.out _ _ ⟨_, _, _, _, _, _, _, _, _, _, _, _, _, _, _, _, _, _, _, rfl, rfl, HN.out⟩
    rintro l a W ⟨b0, b1, b2, b4, b5, b6, b7, b8, g0, gA, g1, v53, v54, v55, v57, v58, v59, v9, v10, rfl, rfl, hI⟩ hr
    cases b0 with
    | false => exact (Oi.ready_nil (i := 0) hr rfl rfl (by intro e he _; simp at he; try (first | (rcases he with rfl | rfl | rfl | rfl | rfl | rfl | rfl | rfl | rfl | rfl | rfl | rfl <;> rfl) | (rcases he with rfl | rfl | rfl | rfl | rfl | rfl | rfl | rfl | rfl | rfl | rfl <;> rfl) | (rcases he with rfl | rfl | rfl | rfl | rfl | rfl | rfl | rfl | rfl | rfl <;> rfl) | (rcases he with rfl | rfl | rfl | rfl | rfl | rfl | rfl | rfl | rfl <;> rfl) | (rcases he with rfl | rfl | rfl | rfl | rfl | rfl | rfl | rfl <;> rfl) | (rcases he with rfl | rfl | rfl | rfl | rfl | rfl | rfl <;> rfl) | (rcases he with rfl | rfl | rfl | rfl | rfl | rfl <;> rfl) | (rcases he with rfl | rfl | rfl | rfl | rfl <;> rfl) | (rcases he with rfl | rfl | rfl | rfl <;> rfl) | (rcases he with rfl | rfl | rfl <;> rfl) | (rcases he with rfl | rfl <;> rfl) | (rcases he with rfl; rfl)))).elim
    | true =>
    cases b1 with
    | false => exact (Oi.ready_nil (i := 1) hr rfl rfl (by intro e he _; simp at he; try (first | (rcases he with rfl | rfl | rfl | rfl | rfl | rfl | rfl | rfl | rfl | rfl | rfl | rfl <;> rfl) | (rcases he with rfl | rfl | rfl | rfl | rfl | rfl | rfl | rfl | rfl | rfl | rfl <;> rfl) | (rcases he with rfl | rfl | rfl | rfl | rfl | rfl | rfl | rfl | rfl | rfl <;> rfl) | (rcases he with rfl | rfl | rfl | rfl | rfl | rfl | rfl | rfl | rfl <;> rfl) | (rcases he with rfl | rfl | rfl | rfl | rfl | rfl | rfl | rfl <;> rfl) | (rcases he with rfl | rfl | rfl | rfl | rfl | rfl | rfl <;> rfl) | (rcases he with rfl | rfl | rfl | rfl | rfl | rfl <;> rfl) | (rcases he with rfl | rfl | rfl | rfl | rfl <;> rfl) | (rcases he with rfl | rfl | rfl | rfl <;> rfl) | (rcases he with rfl | rfl | rfl <;> rfl) | (rcases he with rfl | rfl <;> rfl) | (rcases he with rfl; rfl)))).elim
    | true =>
    cases b2 with
    | false => exact (Oi.ready_nil (i := 2) hr rfl rfl (by intro e he _; simp at he; try (first | (rcases he with rfl | rfl | rfl | rfl | rfl | rfl | rfl | rfl | rfl | rfl | rfl | rfl <;> rfl) | (rcases he with rfl | rfl | rfl | rfl | rfl | rfl | rfl | rfl | rfl | rfl | rfl <;> rfl) | (rcases he with rfl | rfl | rfl | rfl | rfl | rfl | rfl | rfl | rfl | rfl <;> rfl) | (rcases he with rfl | rfl | rfl | rfl | rfl | rfl | rfl | rfl | rfl <;> rfl) | (rcases he with rfl | rfl | rfl | rfl | rfl | rfl | rfl | rfl <;> rfl) | (rcases he with rfl | rfl | rfl | rfl | rfl | rfl | rfl <;> rfl) | (rcases he with rfl | rfl | rfl | rfl | rfl | rfl <;> rfl) | (rcases he with rfl | rfl | rfl | rfl | rfl <;> rfl) | (rcases he with rfl | rfl | rfl | rfl <;> rfl) | (rcases he with rfl | rfl | rfl <;> rfl) | (rcases he with rfl | rfl <;> rfl) | (rcases he with rfl; rfl)))).elim
    | true =>
    cases b4 with
    | false => exact (Oi.ready_nil (i := 4) hr rfl rfl (by intro e he _; simp at he; try (first | (rcases he with rfl | rfl | rfl | rfl | rfl | rfl | rfl | rfl | rfl | rfl | rfl | rfl <;> rfl) | (rcases he with rfl | rfl | rfl | rfl | rfl | rfl | rfl | rfl | rfl | rfl | rfl <;> rfl) | (rcases he with rfl | rfl | rfl | rfl | rfl | rfl | rfl | rfl | rfl | rfl <;> rfl) | (rcases he with rfl | rfl | rfl | rfl | rfl | rfl | rfl | rfl | rfl <;> rfl) | (rcases he with rfl | rfl | rfl | rfl | rfl | rfl | rfl | rfl <;> rfl) | (rcases he with rfl | rfl | rfl | rfl | rfl | rfl | rfl <;> rfl) | (rcases he with rfl | rfl | rfl | rfl | rfl | rfl <;> rfl) | (rcases he with rfl | rfl | rfl | rfl | rfl <;> rfl) | (rcases he with rfl | rfl | rfl | rfl <;> rfl) | (rcases he with rfl | rfl | rfl <;> rfl) | (rcases he with rfl | rfl <;> rfl) | (rcases he with rfl; rfl)))).elim
    | true =>
    cases b5 with
    | false => exact (Oi.ready_nil (i := 5) hr rfl rfl (by intro e he _; simp at he; try (first | (rcases he with rfl | rfl | rfl | rfl | rfl | rfl | rfl | rfl | rfl | rfl | rfl | rfl <;> rfl) | (rcases he with rfl | rfl | rfl | rfl | rfl | rfl | rfl | rfl | rfl | rfl | rfl <;> rfl) | (rcases he with rfl | rfl | rfl | rfl | rfl | rfl | rfl | rfl | rfl | rfl <;> rfl) | (rcases he with rfl | rfl | rfl | rfl | rfl | rfl | rfl | rfl | rfl <;> rfl) | (rcases he with rfl | rfl | rfl | rfl | rfl | rfl | rfl | rfl <;> rfl) | (rcases he with rfl | rfl | rfl | rfl | rfl | rfl | rfl <;> rfl) | (rcases he with rfl | rfl | rfl | rfl | rfl | rfl <;> rfl) | (rcases he with rfl | rfl | rfl | rfl | rfl <;> rfl) | (rcases he with rfl | rfl | rfl | rfl <;> rfl) | (rcases he with rfl | rfl | rfl <;> rfl) | (rcases he with rfl | rfl <;> rfl) | (rcases he with rfl; rfl)))).elim
    | true =>
    cases b6 with
    | false => exact (Oi.ready_nil (i := 6) hr rfl rfl (by intro e he _; simp at he; try (first | (rcases he with rfl | rfl | rfl | rfl | rfl | rfl | rfl | rfl | rfl | rfl | rfl | rfl <;> rfl) | (rcases he with rfl | rfl | rfl | rfl | rfl | rfl | rfl | rfl | rfl | rfl | rfl <;> rfl) | (rcases he with rfl | rfl | rfl | rfl | rfl | rfl | rfl | rfl | rfl | rfl <;> rfl) | (rcases he with rfl | rfl | rfl | rfl | rfl | rfl | rfl | rfl | rfl <;> rfl) | (rcases he with rfl | rfl | rfl | rfl | rfl | rfl | rfl | rfl <;> rfl) | (rcases he with rfl | rfl | rfl | rfl | rfl | rfl | rfl <;> rfl) | (rcases he with rfl | rfl | rfl | rfl | rfl | rfl <;> rfl) | (rcases he with rfl | rfl | rfl | rfl | rfl <;> rfl) | (rcases he with rfl | rfl | rfl | rfl <;> rfl) | (rcases he with rfl | rfl | rfl <;> rfl) | (rcases he with rfl | rfl <;> rfl) | (rcases he with rfl; rfl)))).elim
    | true =>
    cases b7 with
    | false => exact (Oi.ready_nil (i := 7) hr rfl rfl (by intro e he _; simp at he; try (first | (rcases he with rfl | rfl | rfl | rfl | rfl | rfl | rfl | rfl | rfl | rfl | rfl | rfl <;> rfl) | (rcases he with rfl | rfl | rfl | rfl | rfl | rfl | rfl | rfl | rfl | rfl | rfl <;> rfl) | (rcases he with rfl | rfl | rfl | rfl | rfl | rfl | rfl | rfl | rfl | rfl <;> rfl) | (rcases he with rfl | rfl | rfl | rfl | rfl | rfl | rfl | rfl | rfl <;> rfl) | (rcases he with rfl | rfl | rfl | rfl | rfl | rfl | rfl | rfl <;> rfl) | (rcases he with rfl | rfl | rfl | rfl | rfl | rfl | rfl <;> rfl) | (rcases he with rfl | rfl | rfl | rfl | rfl | rfl <;> rfl) | (rcases he with rfl | rfl | rfl | rfl | rfl <;> rfl) | (rcases he with rfl | rfl | rfl | rfl <;> rfl) | (rcases he with rfl | rfl | rfl <;> rfl) | (rcases he with rfl | rfl <;> rfl) | (rcases he with rfl; rfl)))).elim
    | true =>
    cases b8 with
    | false => exact (Oi.ready_nil (i := 8) hr rfl rfl (by intro e he _; simp at he; try (first | (rcases he with rfl | rfl | rfl | rfl | rfl | rfl | rfl | rfl | rfl | rfl | rfl | rfl <;> rfl) | (rcases he with rfl | rfl | rfl | rfl | rfl | rfl | rfl | rfl | rfl | rfl | rfl <;> rfl) | (rcases he with rfl | rfl | rfl | rfl | rfl | rfl | rfl | rfl | rfl | rfl <;> rfl) | (rcases he with rfl | rfl | rfl | rfl | rfl | rfl | rfl | rfl | rfl <;> rfl) | (rcases he with rfl | rfl | rfl | rfl | rfl | rfl | rfl | rfl <;> rfl) | (rcases he with rfl | rfl | rfl | rfl | rfl | rfl | rfl <;> rfl) | (rcases he with rfl | rfl | rfl | rfl | rfl | rfl <;> rfl) | (rcases he with rfl | rfl | rfl | rfl | rfl <;> rfl) | (rcases he with rfl | rfl | rfl | rfl <;> rfl) | (rcases he with rfl | rfl | rfl <;> rfl) | (rcases he with rfl | rfl <;> rfl) | (rcases he with rfl; rfl)))).elim
    | true =>
    clear hr
    have hv9 := hI.a9 rfl
    have hv10 := hI.a10 rfl
    unfold ptr at hv9 hv10
    subst hv9 hv10
    have HZ0 := Hid.mk (hI.z0 rfl).2
    obtain ⟨-, hgA, hbA, hzA⟩ := hI.box rfl
    have HZA := Hid.mk (And.intro (hzA rfl) hbA)
    have HGA := Hid.mk hgA
    have HNE := Hid.mk (hI.d0 rfl rfl)
    have HBW := Hid.mk hI.below
    clear hI hgA hbA hzA
    have HRW := Hid.mk (HR9.out.kept HBW.out)
    have HGW := Hid.mk (HG9.out.kept HBW.out)
    have HBB := Hid.mk (bl2 HB.out (bl2 HB9.out HBW.out))
    have c4 := HGW.out.c4
    simp only at c4
    have hrl := HR9.out.lt
    have hp40 := pow_le40 hs40
    have hph := pow_half hs1
    have hpp : (0 : Int) < 2 ^ (sz - 1) := Int.pow_pos (by omega)
    have HWW := Hid.mk (show w.heap.size ≤ w9.heap.size from (bl2 HB.out HB9.out).size)
    clear HB HG HB9 HR9 HG9 HGW
    cases sg with
    | false =>
      have hEX := HE.out
      unfold lowS highS at hEX
      simp only [Bool.false_eq_true, if_false] at hEX
      have HRX := Hid.mk HRW.out
      have HLO := Hid.mk HZ0.out.1.1
      have HHI := Hid.mk HZA.out.1
      have HBX := Hid.mk HBB.out
      generalize (2 : Int) ^ sz = Z at *
      have HEX := Hid.mk hEX
      clear hEX HE HZ0 HZA HRW HBB
      have HNM := Hid.mk (fun W' => rnum_z w1.heap.size W')
      have hC1 := icmp_z w1.heap.size 0 g0 0 N4 0 W HRX.out.num HLO.out HNB.out.1.1 HNB.out.1.2 (by omega) (by omega)
      have hC2 := fun W' (hb : Below W.heap.size W W') => icmp_z w1.heap.size 0 gA 0 N4 Z W' (HRX.out.kept hb).num (HHI.out.kept hb) HNB.out.1.1 HNB.out.1.2 (by omega) (by omega)
      have HI6 := Hid.mk (fun W' (hb : Below W.heap.size W W') => int64_z w1.heap.size 0 N4 W' (HRX.out.kept hb).num HNB.out.1.1 HNB.out.1.2)
      by_cases hlo : N4 < 0
      · rw [cmpI_lt hlo] at hC1
        have HEE := Hid.mk (HEX.out.2 (fun h => by omega))
        have HC1 := Hid.mk hC1
        clear hC1 hC2 hlo HEX
        go_wp2_with fail
        with_reducible refine (HNM.out _).mono ?_
        rintro e ww ⟨rfl, hww⟩
        obtain rfl := hww.symm
        go_wp2_with fail
        with_reducible refine HC1.out.mono ?_
        rintro e x1 ⟨rfl, hb1⟩
        have HX1 := Hid.mk (bl2 HBX.out hb1)
        have HX0 := Hid.mk hb1
        clear hb1
        go_wp2_with fail
        go_ret2
        exact ⟨by rw [HEE.out.1, HEE.out.2]; rfl, HX1.out⟩
      · obtain ⟨q1, q2⟩ := cmpI_ge hlo
        by_cases hhi : N4 < Z
        · rw [cmpI_lt hhi] at hC2
          have HEE := Hid.mk (HEX.out.1 (by omega))
          generalize cmpI N4 0 = C1 at *
          have HC1 := Hid.mk hC1
          have HC2 := Hid.mk hC2
          clear hC1 hC2 hlo hhi HEX
          go_wp2_with fail
          with_reducible refine (HNM.out _).mono ?_
          rintro e ww ⟨rfl, hww⟩
          obtain rfl := hww.symm
          go_wp2_with fail
          with_reducible refine HC1.out.mono ?_
          rintro e x1 ⟨rfl, hb1⟩
          have HX1 := Hid.mk (bl2 HBX.out hb1)
          have HX0 := Hid.mk hb1
          clear hb1
          go_wp2_with fail
          with_reducible refine (HNM.out _).mono ?_
          rintro e ww ⟨rfl, hww⟩
          obtain rfl := hww.symm
          go_wp2_with fail
          with_reducible refine (HC2.out _ HX0.out).mono ?_
          rintro e x2 ⟨rfl, hb2⟩
          have HX2 := Hid.mk (bl2 HX1.out hb2)
          have HX3 := Hid.mk (bl2 HX0.out hb2)
          clear hb2
          go_wp2_with fail
          with_reducible refine (HNM.out _).mono ?_
          rintro e ww ⟨rfl, hww⟩
          obtain rfl := hww.symm
          go_wp2_with fail
          with_reducible refine (HI6.out _ HX3.out).mono ?_
          rintro e ww ⟨rfl, hww⟩
          obtain rfl := hww.symm
          go_wp2_with fail
          go_ret2
          exact ⟨by rw [HEE.out.1, HEE.out.2]; rfl, HX2.out⟩
        · obtain ⟨r1, r2⟩ := cmpI_ge hhi
          have HEE := Hid.mk (HEX.out.2 (fun h => by omega))
          generalize cmpI N4 0 = C1 at *
          generalize cmpI N4 Z = C2 at *
          have HC1 := Hid.mk hC1
          have HC2 := Hid.mk hC2
          clear hC1 hC2 hlo hhi HEX
          go_wp2_with fail
          with_reducible refine (HNM.out _).mono ?_
          rintro e ww ⟨rfl, hww⟩
          obtain rfl := hww.symm
          go_wp2_with fail
          with_reducible refine HC1.out.mono ?_
          rintro e x1 ⟨rfl, hb1⟩
          have HX1 := Hid.mk (bl2 HBX.out hb1)
          have HX0 := Hid.mk hb1
          clear hb1
          go_wp2_with fail
          with_reducible refine (HNM.out _).mono ?_
          rintro e ww ⟨rfl, hww⟩
          obtain rfl := hww.symm
          go_wp2_with fail
          with_reducible refine (HC2.out _ HX0.out).mono ?_
          rintro e x2 ⟨rfl, hb2⟩
          have HX2 := Hid.mk (bl2 HX1.out hb2)
          have HX3 := Hid.mk (bl2 HX0.out hb2)
          clear hb2
          go_wp2_with fail
          go_ret2
          exact ⟨by rw [HEE.out.1, HEE.out.2]; rfl, HX2.out⟩
    | true =>
      have hEX := HE.out
      unfold lowS highS at hEX
      simp only [if_true] at hEX
      obtain ⟨cA, hcA, hiA⟩ := HZA.out.2
      have hR := irsh_z gA cA _ (2 ^ sz) W HZA.out.1 hcA hiA (by omega) (by omega)
      have hhalf : (2 : Int) ^ sz / 2 = 2 ^ (sz - 1) := by omega
      rw [hhalf] at hR
      have HRS := Hid.mk hR
      obtain ⟨Y, hY⟩ : ∃ Y : Int, Y = 2 ^ (sz - 1) := ⟨_, rfl⟩
      rw [← hY] at HRS hEX hph hpp
      have HEX := Hid.mk hEX
      have HCA := Hid.mk (And.intro hcA hiA)
      clear hEX HE hR hhalf hY hcA hiA
      go_wp2_with fail
      with_reducible refine HRS.out.mono ?_
      rintro e X1 ⟨rfl, hO1⟩
      have HA1 := Hid.mk (hO1.int HCA.out.2)
      have HR1 := Hid.mk (HRW.out.tch HCA.out.1 HCA.out.2.noW hO1.1 (by have := HGA.out; omega))
      have HI1 := Hid.mk (HZ0.out.1.tch HCA.out.1 HCA.out.2.noW hO1.1 HNE.out)
      have HBX1 := Hid.mk (Tch.below HBB.out hO1.1 (by have := HGA.out; have := HWW.out; simp; omega) (Nat.le_refl _))
      obtain ⟨hz0, cs0, hc0, hi0⟩ := HI1.out
      have HNG := Hid.mk (ineg_z g0 0 cs0 _ gA 0 Y X1 HA1.out.1 hc0 hi0.noW (by obtain ⟨b, a, l, c, rfl⟩ := hi0; exact ⟨_, rfl⟩) (by obtain ⟨b, a, l, c, rfl⟩ := hi0; exact ⟨_, _, _, rfl⟩) (by omega) (by omega))
      have HC0 := Hid.mk (And.intro hc0 hi0)
      clear hO1 hz0 hc0 hi0
      go_wp2_with fail
      with_reducible refine HNG.out.mono ?_
      rintro e X2 ⟨rfl, hO2⟩
      have HLO := Hid.mk (hO2.int HC0.out.2).1
      have HHI := Hid.mk (HA1.out.1.tch HC0.out.1 HC0.out.2.noW hO2.1 (fun x => HNE.out x.symm))
      have HRX := Hid.mk (HR1.out.tch HC0.out.1 HC0.out.2.noW hO2.1 (by have := HZ0.out.2; omega))
      have HBX := Hid.mk (Tch.below HBX1.out hO2.1 (by have := HZ0.out.2; have := HWW.out; simp; omega) (Nat.le_refl _))
      clear hO2 HNG HRS HA1 HR1 HI1 HBX1 HC0 HCA HZ0 HZA HRW HBB
      have HNM := Hid.mk (fun W' => rnum_z w1.heap.size W')
      have hC1 := icmp_z w1.heap.size 0 g0 0 N4 (-Y) X2 HRX.out.num HLO.out HNB.out.1.1 HNB.out.1.2 (by omega) (by omega)
      have hC2 := fun W' (hb : Below X2.heap.size X2 W') => icmp_z w1.heap.size 0 gA 0 N4 Y W' (HRX.out.kept hb).num (HHI.out.kept hb) HNB.out.1.1 HNB.out.1.2 (by omega) (by omega)
      have HI6 := Hid.mk (fun W' (hb : Below X2.heap.size X2 W') => int64_z w1.heap.size 0 N4 W' (HRX.out.kept hb).num HNB.out.1.1 HNB.out.1.2)
      by_cases hlo : N4 < (-Y)
      · rw [cmpI_lt hlo] at hC1
        have HEE := Hid.mk (HEX.out.2 (fun h => by omega))
        have HC1 := Hid.mk hC1
        clear hC1 hC2 hlo HEX
        go_wp2_with fail
        with_reducible refine (HNM.out _).mono ?_
        rintro e ww ⟨rfl, hww⟩
        obtain rfl := hww.symm
        go_wp2_with fail
        with_reducible refine HC1.out.mono ?_
        rintro e x1 ⟨rfl, hb1⟩
        have HX1 := Hid.mk (bl2 HBX.out hb1)
        have HX0 := Hid.mk hb1
        clear hb1
        go_wp2_with fail
        go_ret2
        exact ⟨by rw [HEE.out.1, HEE.out.2]; rfl, HX1.out⟩
      · obtain ⟨q1, q2⟩ := cmpI_ge hlo
        by_cases hhi : N4 < Y
        · rw [cmpI_lt hhi] at hC2
          have HEE := Hid.mk (HEX.out.1 (by omega))
          generalize cmpI N4 (-Y) = C1 at *
          have HC1 := Hid.mk hC1
          have HC2 := Hid.mk hC2
          clear hC1 hC2 hlo hhi HEX
          go_wp2_with fail
          with_reducible refine (HNM.out _).mono ?_
          rintro e ww ⟨rfl, hww⟩
          obtain rfl := hww.symm
          go_wp2_with fail
          with_reducible refine HC1.out.mono ?_
          rintro e x1 ⟨rfl, hb1⟩
          have HX1 := Hid.mk (bl2 HBX.out hb1)
          have HX0 := Hid.mk hb1
          clear hb1
          go_wp2_with fail
          with_reducible refine (HNM.out _).mono ?_
          rintro e ww ⟨rfl, hww⟩
          obtain rfl := hww.symm
          go_wp2_with fail
          with_reducible refine (HC2.out _ HX0.out).mono ?_
          rintro e x2 ⟨rfl, hb2⟩
          have HX2 := Hid.mk (bl2 HX1.out hb2)
          have HX3 := Hid.mk (bl2 HX0.out hb2)
          clear hb2
          go_wp2_with fail
          with_reducible refine (HNM.out _).mono ?_
          rintro e ww ⟨rfl, hww⟩
          obtain rfl := hww.symm
          go_wp2_with fail
          with_reducible refine (HI6.out _ HX3.out).mono ?_
          rintro e ww ⟨rfl, hww⟩
          obtain rfl := hww.symm
          go_wp2_with fail
          go_ret2
          exact ⟨by rw [HEE.out.1, HEE.out.2]; rfl, HX2.out⟩
        · obtain ⟨r1, r2⟩ := cmpI_ge hhi
          have HEE := Hid.mk (HEX.out.2 (fun h => by omega))
          generalize cmpI N4 (-Y) = C1 at *
          generalize cmpI N4 Y = C2 at *
          have HC1 := Hid.mk hC1
          have HC2 := Hid.mk hC2
          clear hC1 hC2 hlo hhi HEX
          go_wp2_with fail
          with_reducible refine (HNM.out _).mono ?_
          rintro e ww ⟨rfl, hww⟩
          obtain rfl := hww.symm
          go_wp2_with fail
          with_reducible refine HC1.out.mono ?_
          rintro e x1 ⟨rfl, hb1⟩
          have HX1 := Hid.mk (bl2 HBX.out hb1)
          have HX0 := Hid.mk hb1
          clear hb1
          go_wp2_with fail
          with_reducible refine (HNM.out _).mono ?_
          rintro e ww ⟨rfl, hww⟩
          obtain rfl := hww.symm
          go_wp2_with fail
          with_reducible refine (HC2.out _ HX0.out).mono ?_
          rintro e x2 ⟨rfl, hb2⟩
          have HX2 := Hid.mk (bl2 HX1.out hb2)
          have HX3 := Hid.mk (bl2 HX0.out hb2)
          clear hb2
          go_wp2_with fail
          go_ret2
          exact ⟨by rw [HEE.out.1, HEE.out.2]; rfl, HX2.out⟩
  · have HE := Hid.mk (HD1.out hD)
    have hdd : decide (D4 = 1) = false := decide_eq_false hD
    rw [hdd] at HIS
    clear hD hdd HD1 HD2
    go_wp2_with fail
    with_reducible refine HIS.out.mono ?_
    rintro e w9 ⟨rfl, hb9⟩
    have HB9 := Hid.mk (bl2 HB.out (bl2 HB8.out hb9))
    clear hb9
    go_wp2_with fail
    go_ret2
    exact ⟨by rw [HE.out.1, HE.out.2]; rfl, HB9.out⟩
end Bw
end Go.Proofs.YtjgliinpaadbnaaGreatDoor
