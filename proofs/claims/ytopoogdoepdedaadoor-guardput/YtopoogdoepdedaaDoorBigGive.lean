/- What omnibusbig's give, BitLen, NewInt and low answer of numbers from 0 on. -/
import Derived.Test.YtopoogdoepdedaaDoorWordsLeft
import Derived.Test.YtopoogdoepdedaaDoorBigValue
import Derived.Laws.CopyOwn
namespace Go.Proofs.YtopoogdoepdedaaDoor
open Go.ChangeShapes Go.WideShapes Go.ChangeAt Go.RowKit
namespace Ww
open Wm Bm

def isStruct (w : World) (g : Nat) : Prop := ∃ b s l c, w.heap[g]? = some (.cells #[.bool b, .slice s l c] 58 (0, 0))
theorem IsInt.struct {w : World} {g n : Nat} (h : IsInt w g n) : isStruct w g := by
  obtain ⟨va, xs, hg, ⟨a, c, rfl, _⟩, _, _⟩ := h
  exact ⟨_, _, _, _, hg⟩
/-- but for one block all that was there is as it was -/
structure Touch (g : Nat) (w w' : World) : Prop where
  os : w'.os = w.os
  tape : w'.tape = w.tape
  output : w'.output = w.output
  size : w.heap.size ≤ w'.heap.size
  block : ∀ k, k < w.heap.size → k ≠ g → w'.heap[k]? = w.heap[k]?
theorem Touch.refl (g : Nat) (w : World) : Touch g w w := ⟨rfl, rfl, rfl, Nat.le_refl _, fun _ _ _ => rfl⟩
theorem Touch.trans {g : Nat} {a b c : World} (h : Touch g a b) (k : Touch g b c) : Touch g a c :=
  ⟨k.os.trans h.os, k.tape.trans h.tape, k.output.trans h.output, Nat.le_trans h.size k.size, fun i hi hg => (k.block i (Nat.lt_of_lt_of_le hi h.size) hg).trans (h.block i hi hg)⟩
theorem Touch.of_below {g : Nat} {w w' : World} (h : Below w.heap.size w w') : Touch g w w' := ⟨h.os, h.tape, h.output, h.size, fun k hk _ => h.block k hk⟩
theorem Touch.below {g B : Nat} {w w' : World} (h : Touch g w w') (hB : B ≤ g) (hs : B ≤ w.heap.size) : Below B w w' :=
  ⟨h.os, h.tape, h.output, h.size, fun k hk => h.block k (by omega) (by omega)⟩
theorem Touch.set (g : Nat) (w : World) (j : Nat) (u : Value) : Touch g w (w.setCell ⟨g, j, none⟩ u) :=
  ⟨rfl, rfl, rfl, by simp [World.setCell], fun _ _ hk => Below.heap_setCell _ _ _ _ hk⟩
theorem cell_block {w : World} {a : Addr} {v : Value} (hc : w.cell? a = some v) : a.block < w.heap.size := by
  rcases Nat.lt_or_ge a.block w.heap.size with h | h
  · exact h
  · unfold World.cell? at hc
    rw [Array.getElem?_eq_none h] at hc
    simp at hc
/-- words lie in no block of a struct -/
theorem word_apart {w : World} {g : Nat} (hg : isStruct w g) {a : Addr} {x : Int} (hc : w.cell? a = some (.int .u32 x)) : a.block ≠ g := by
  intro e
  obtain ⟨b, s, l, c, hh⟩ := hg
  obtain ⟨k, o, t⟩ := a
  simp only at e
  subst e
  unfold World.cell? at hc
  simp only [hh] at hc
  match o, hc with
  | 0, hc => simp at hc
  | 1, hc => simp at hc
  | o + 2, hc => simp at hc
theorem IsW.touch {w w' : World} {v : Value} {xs : List Nat} {g : Nat} (h : IsW w v xs) (hg : isStruct w g) (ht : Touch g w w') : IsW w' v xs := by
  obtain ⟨a, c, h1, h2, h3, h4, h5, h6⟩ := h
  refine ⟨a, c, h1, h2, h3, h4, fun x hx i hi => ?_, h6⟩
  have hc := h5 x hx i hi
  have hb := ht.block (x.add i).block (cell_block hc) (word_apart hg hc)
  rw [World.cell?_of_block (w := w) hb]
  exact hc
theorem IsInt.touch {w w' : World} {h n g : Nat} (hI : IsInt w h n) (hne : h ≠ g) (hg : isStruct w g) (ht : Touch g w w') : IsInt w' h n := by
  obtain ⟨va, xs, hh, hw, hr⟩ := hI
  have hlt : h < w.heap.size := by
    rcases Nat.lt_or_ge h w.heap.size with h' | h'
    · exact h'
    · rw [Array.getElem?_eq_none h'] at hh; cases hh
  exact ⟨va, xs, by rw [ht.block h hlt hne]; exact hh, hw.touch hg ht, hr⟩
theorem IsInt.below {w w' : World} {h n : Nat} (hI : IsInt w h n) (hb : Below w.heap.size w w') : IsInt w' h n := by
  obtain ⟨va, xs, hh, hw, hr⟩ := hI
  have hlt : h < w.heap.size := by
    rcases Nat.lt_or_ge h w.heap.size with h' | h'
    · exact h'
    · rw [Array.getElem?_eq_none h'] at hh; cases hh
  exact ⟨va, xs, by rw [hb.block h hlt]; exact hh, hw.below hb, hr⟩

set_option maxHeartbeats 2000000 in
theorem give_any (g : Nat) (va : Value) (xs : List Nat) (w : World) (hg : isStruct w g) (hW : IsW w va xs) (ht : trimW xs) :
    Calls Tryd.prog 53 #[.pointer (some ⟨g, 0, none⟩), .bool false, va] w fun e w' => e = .returned (.pointer (some ⟨g, 0, none⟩)) ∧ IsInt w' g (valW xs) ∧ Touch g w w' := by
  have HS := Hid.mk hg
  obtain ⟨b, s, l, c, hh⟩ := hg
  obtain ⟨a, ca, rfl, hr⟩ := hW
  have HW : Hid (IsW w (.slice a xs.length ca) xs) := ⟨a, ca, rfl, hr⟩
  have hc0 := cell_of_row w g 0 _ _ _ hh
  have hc1 := cell_of_row w g 1 _ _ _ hh
  have hf0 := frozen_of_row w g 0 _ _ hh
  have hf1 := frozen_of_row w g 1 _ _ hh
  simp only [List.getElem?_toArray, List.getElem?_cons_zero, List.getElem?_cons_succ] at hc0 hc1
  have hst1 := heap_setCell_same w g 1 _ _ (.slice a xs.length ca) hh
  have hst2 := heap_setCell_same _ g 0 _ _ (.bool false) hst1
  have htt : Touch g w ((w.setCell ⟨g, 1, none⟩ (.slice a xs.length ca)).setCell ⟨g, 0, none⟩ (.bool false)) := (Touch.set g w 1 _).trans (Touch.set g _ 0 _)
  have HST := Hid.mk hst2
  have HTT := Hid.mk htt
  have HT := Hid.mk ht
  clear hh hr hst1 hst2 htt ht
  go_enter Tryd.func53, Tryd.ntmps53
  go_wp2_with fail
  go_ret
  exact ⟨rfl, ⟨_, xs, HST.out, HW.out.touch HS.out HTT.out, HT.out, rfl⟩, HTT.out⟩

set_option maxHeartbeats 2000000 in
theorem bitLen_any (g n : Nat) (w : World) (h : IsInt w g n) (hn : n < 2 ^ 5000) :
    Calls Tryd.prog 34 #[.pointer (some ⟨g, 0, none⟩)] w fun e w' => ∃ L : Nat, e = .returned (.int .i64 L) ∧ n < 2 ^ L ∧ (L = 0 ∨ 2 ^ (L - 1) ≤ n) ∧ L ≤ 6000 ∧ w' = w := by
  obtain ⟨va, xs, hh, hW, ht, hv⟩ := h
  have hxl : xs.length ≤ 157 := len_of_val ht hv 5000 hn 157 (by omega)
  have hlen := length_any va xs w hW (by omega) ht
  rw [hv] at hlen
  obtain ⟨a, ca, rfl, hr⟩ := hW
  have hc1 := cell_of_row w g 1 _ _ _ hh
  simp only [List.getElem?_toArray, List.getElem?_cons_zero, List.getElem?_cons_succ] at hc1
  have HL := Hid.mk hlen
  clear hn hlen hr hh ht hv
  go_enter Tryd.func34, Tryd.ntmps34
  go_wp2_with fail
  refine HL.out.mono ?_
  rintro e w1 ⟨L, rfl, h1, h2, h3, hw1⟩
  subst hw1
  have H1 := Hid.mk h1
  have H2 := Hid.mk h2
  clear h1 h2
  go_wp2_with fail
  go_ret
  exact ⟨L, rfl, H1.out, H2.out, by omega, rfl⟩

set_option maxHeartbeats 2000000 in
theorem newInt_any (n : Nat) (w : World) (hn : n ≤ 4294967295) :
    Calls Tryd.prog 31 #[.int .i64 n] w fun e w' => e = .returned (.pointer (some ⟨w.heap.size, 0, none⟩)) ∧ IsInt w' w.heap.size n ∧ Below w.heap.size w w' := by
  have hn' : (n : Int) ≤ 4294967295 := by omega
  have hw := fun W => words_any n W (by omega)
  have HW := Hid.mk hw
  clear hn hw
  go_enter Tryd.func31, Tryd.ntmps31
  go_wp2_with (go_at_call 55; go_in)
  refine (HW.out _).mono ?_
  rintro e w1 ⟨v', ys, rfl, hy, hyv, hyt, hyl, hb1⟩
  have hs1 : isStruct w1 w.heap.size := ⟨false, none, 0, 0, by
    rw [hb1.block w.heap.size (by simp)]
    exact heap_alloc_new w _⟩
  have hgv := give_any w.heap.size v' ys w1 hs1 hy hyt
  rw [hyv] at hgv
  have hbw : Below w.heap.size w w1 := ((Below.refl _ _).alloc (Nat.le_refl _) _).trans (hb1.mono (by simp))
  have HG := Hid.mk hgv
  clear hgv hs1 hy hyv hyt hb1
  go_wp2_with fail
  refine HG.out.mono ?_
  rintro e w2 ⟨rfl, hI, ht⟩
  have HI := Hid.mk hI
  have hb2 := hbw.trans (ht.below (Nat.le_refl _) hbw.size)
  clear hI ht
  go_wp2_with fail
  go_ret
  exact ⟨rfl, HI.out, hb2⟩
end Ww
end Go.Proofs.YtopoogdoepdedaaDoor
