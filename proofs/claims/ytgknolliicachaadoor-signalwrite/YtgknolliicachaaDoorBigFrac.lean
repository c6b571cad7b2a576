/- omnibusbig's fractions: SetFrac and SetFrac64. -/
import Derived.Test.YtgknolliicachaaDoorBigNorm
import Derived.Test.YtgknolliicachaaDoorBigSet
namespace Go.Proofs.YtgknolliicachaaDoor
open Go.ChangeShapes Go.WideShapes Go.ChangeAt Go.RowKit Go.Sort
namespace Ww
open Wm Sm
open Bw (Tch bl2 cell_kept)
theorem zvB (w : World) : Below w.heap.size w (w.alloc (.cells #[.bool false, .slice none 0 0] 68)) := (Below.refl _ _).alloc (Nat.le_refl _) _
theorem ZAt.lt {w : World} {g o : Nat} {r : Int} (h : ZAt w g o r) : g < w.heap.size := by
  obtain ⟨va, xs, h1, _⟩ := h
  rcases Nat.lt_or_ge g w.heap.size with h' | h'
  · exact h'
  · unfold World.cell? at h1
    rw [Array.getElem?_eq_none h'] at h1
    simp at h1
theorem Tch.size' {gs : List Nat} {w w' : World} (h : Tch gs w w') : w.heap.size ≤ w'.heap.size := h.size
set_option maxHeartbeats 16000000 in
set_option maxRecDepth 100000 in
theorem setFrac_z (g : Nat) (cs : List Value) (ga oa gb ob : Nat) (p q P Q : Int) (w : World) (hB : BlkAt w g cs 70) (hV : RatV cs) (ha : ZAt w ga oa p) (hb : ZAt w gb ob q) (hq : q ≠ 0) (hp1 : -4611686018427387903 ≤ p) (hp2 : p ≤ 4611686018427387903) (hq1 : -4611686018427387903 ≤ q) (hq2 : q ≤ 4611686018427387903)
    (hN : ∀ W, RatAt W g p q → Calls Tryd.prog 84 #[.pointer (some ⟨g, 0, none⟩)] W fun e w' => e = .returned (.pointer (some ⟨g, 0, none⟩)) ∧ RatAt w' g P Q ∧ Tch [g] W w') :
    Calls Tryd.prog 65 #[.pointer (some ⟨g, 0, none⟩), .pointer (some ⟨ga, oa, none⟩), .pointer (some ⟨gb, ob, none⟩)] w fun e w' => e = .returned (.pointer (some ⟨g, 0, none⟩)) ∧ RatAt w' g P Q ∧ Tch [g] w w' := by
  have hal := ha.lt
  have hbl := hb.lt
  have hgl := hB.lt
  have hZ1 := zvB w
  have HS1 := Hid.mk (set_z w.heap.size zvC _ ga oa p _ (ha.kept hZ1) (zv_new w) zv_int (by omega) hp1 hp2)
  have HS2 := Hid.mk (fun W (h : ZAt W gb ob q) (hne : gb ≠ W.heap.size) => set_z W.heap.size zvC _ gb ob q _ (h.kept (zvB W)) (zv_new W) zv_int hne hq1 hq2)
  obtain ⟨vb, ys, b1, b2, b3, b4, b5⟩ := id hb
  obtain ⟨lb, nb, cb, rfl⟩ := b3.sliceB
  have hnb := len_pos b3 (by rw [b5]; omega)
  have hnb' : ((nb : Int) == 0) = false := by simp; omega
  have HB := Hid.mk hB
  have HBB := Hid.mk hb
  have HN := Hid.mk hN
  have HZ1 := Hid.mk hZ1
  have HV := Hid.mk hV
  have HBL := Hid.mk hbl
  have HGL := Hid.mk hgl
  clear b1 b3 b4 b5 hnb hB hV ha hb hq hp1 hp2 hq1 hq2 hN hal hbl hgl hZ1
  go_enter Tryd.func65, Tryd.ntmps65
  go_wp2_with fail
  with_reducible refine HS1.out.mono ?_
  rintro e w2 ⟨rfl, hO1⟩
  have HA1 := Hid.mk (hO1.int zv_int).1
  have HI1 := Hid.mk (hO1.int zv_int).2
  have HT1 := Hid.mk (hO1.below HZ1.out (Nat.le_refl _))
  have hsz0 := hO1.1.size
  have hsz1 : (w.alloc (.cells #[.bool false, .slice none 0 0] 68)).heap.size = w.heap.size + 1 := by simp
  have HSZ := Hid.mk (show w.heap.size < w2.heap.size by omega)
  have HB2 := Hid.mk (HBB.out.kept HT1.out)
  have HNE := Hid.mk (show gb ≠ w2.heap.size by have := HBL.out; have := HSZ.out; omega)
  clear hO1 HS1 b2 hsz0 hsz1
  go_wp2_with fail
  with_reducible refine (HS2.out w2 HB2.out HNE.out).mono ?_
  rintro e w4 ⟨rfl, hO2⟩
  have HA2 := Hid.mk (hO2.int zv_int).1
  have HBL4 := Hid.mk (hO2.below (zvB w2) (Nat.le_refl _))
  have HA3 := Hid.mk (HA1.out.kept HBL4.out)
  have HT4 := Hid.mk (bl2 HT1.out HBL4.out)
  clear hO2 HS2
  obtain ⟨v1, xs1, p1, p2, p3, p4, p5⟩ := HA3.out
  obtain ⟨v2, xs2, q1, q2, q3, q4, q5⟩ := HA2.out
  obtain ⟨s1, m1, k1, rfl⟩ := p3.sliceB
  obtain ⟨s2, m2, k2, rfl⟩ := q3.sliceB
  obtain ⟨r1, r2, r3, r4, r5, r6, r7, r8, rfl⟩ := HV.out
  have hK := HB.out.kept HT4.out
  have c0 := hK.cell (i := 0) rfl
  have f0 := hK.free 0
  have c1 := hK.cell (i := 1) rfl
  have f1 := hK.free 1
  have c2 := hK.cell (i := 2) rfl
  have f2 := hK.free 2
  have c3 := hK.cell (i := 3) rfl
  have f3 := hK.free 3
  have hK4 := (((hK.set 0 (.bool (decide (p < 0)))).set 1 (.slice s1 m1 k1)).set 2 (.bool (decide (q < 0)))).set 3 (.slice s2 m2 k2)
  have hT4 : Tch [g] w4 ((((w4.setCell ⟨g, 0, none⟩ (.bool (decide (p < 0)))).setCell ⟨g, 1, none⟩ (.slice s1 m1 k1)).setCell ⟨g, 2, none⟩ (.bool (decide (q < 0)))).setCell ⟨g, 3, none⟩ (.slice s2 m2 k2)) := ((((Tch.refl [g] w4).setK (by simp) _ _).setK (by simp) _ _).setK (by simp) _ _).setK (by simp) _ _
  have hnq : w2.heap.size ≠ g := by have := HGL.out; have := HSZ.out; omega
  have hnq' : g ≠ w2.heap.size := fun e => hnq e.symm
  have hRat : RatAt ((((w4.setCell ⟨g, 0, none⟩ (.bool (decide (p < 0)))).setCell ⟨g, 1, none⟩ (.slice s1 m1 k1)).setCell ⟨g, 2, none⟩ (.bool (decide (q < 0)))).setCell ⟨g, 3, none⟩ (.slice s2 m2 k2)) g p q := ⟨_, xs1, _, xs2, hK4, ⟨p3.tch hK (RatV.noW ⟨_, _, _, _, _, _, _, _, rfl⟩) hT4, p4, p5⟩, q3.tch hK (RatV.noW ⟨_, _, _, _, _, _, _, _, rfl⟩) hT4, q4, q5⟩
  have HNN := Hid.mk (HN.out _ hRat)
  have HT9 := Hid.mk ((Tch.of HT4.out).trans hT4)
  clear hK hK4 hRat hT4 p3 p4 p5 q3 q4 q5
  go_wp2_with fail
  with_reducible refine HNN.out.mono ?_
  rintro e w9 ⟨rfl, hR9, ht9⟩
  have HR9 := Hid.mk hR9
  have HT := Hid.mk (HT9.out.trans ht9)
  clear hR9 ht9
  go_wp2_with fail
  go_ret
  exact ⟨rfl, HR9.out, HT.out⟩
end Ww
end Go.Proofs.YtgknolliicachaaDoor
