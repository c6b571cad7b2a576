/- The document's own Value of a row, whole; and what Uint64 and Int64 tell of a big number below 2^62. -/
import Derived.Test.YtemohjamcdkcmaaGreatDoorC18
import Derived.Test.YtemohjamcdkcmaaGreatDoorC2
import Derived.Laws.CopyOwn
namespace Go.Proofs.YtemohjamcdkcmaaGreatDoor
open Go.ChangeShapes Go.WideShapes Go.ChangeAt Go.RowKit
namespace Ww
open Wm Bm

theorem bl2 {w a b : World} (h1 : Below w.heap.size w a) (h2 : Below a.heap.size a b) : Below w.heap.size w b := h1.trans (h2.mono h1.size)

def IsInt (w : World) (g : Nat) (n : Nat) : Prop :=
  ∃ va xs, w.heap[g]? = some (.cells #[.bool false, va] 110 (0, 0)) ∧ IsW w va xs ∧ trimW xs ∧ valW xs = n

theorem len_of_val {xs : List Nat} {n : Nat} (ht : trimW xs) (hv : valW xs = n) (k : Nat) (hn : n < 2 ^ k) (q : Nat) (hk : k ≤ 32 * q) : xs.length ≤ q :=
  trimW_len ht q (by rw [hv]; exact Nat.lt_of_lt_of_le hn (Nat.pow_le_pow_right (Nat.succ_pos 1) hk))

/-- a slice of words lies apart from a block of a struct -/
theorem isW_apart {w : World} {v : Value} {xs : List Nat} {g : Nat} {u1 u2 : Value} (h : IsW w v xs) (hg : w.heap[g]? = some (.cells #[.bool false, .slice none 0 0] 110 (0, 0))) :
    IsW ((w.setCell ⟨g, 1, none⟩ u1).setCell ⟨g, 0, none⟩ u2) v xs := by
  obtain ⟨a, c, h1, h2, h3, h4, h5, h6⟩ := h
  refine ⟨a, c, h1, h2, h3, h4, fun x hx i hi => ?_, h6⟩
  have hc := h5 x hx i hi
  have n1 : (⟨g, 1, none⟩ : Addr) ≠ x.add i := by
    intro e
    rw [← e, cell_of_row w g 1 _ _ _ hg] at hc
    cases hc
  have n0 : (⟨g, 0, none⟩ : Addr) ≠ x.add i := by
    intro e
    rw [← e, cell_of_row w g 0 _ _ _ hg] at hc
    cases hc
  rw [World.cell?_setCell_other (h := n0), World.cell?_setCell_other (h := n1)]
  exact hc

set_option maxHeartbeats 4000000 in
theorem setString_any (g : Nat) (s : ByteArray) (w : World) (h1 : 0 < s.size) (h2 : s.size ≤ 1000) (hrow : rowB s.data.toList = true) (hg : w.heap[g]? = some (.cells #[.bool false, .slice none 0 0] 110 (0, 0))) :
    Calls Tryz.prog 106 #[.pointer (some ⟨g, 0, none⟩), .string s, .int .i64 2] w fun e w' => (∃ r, e = .returned r) ∧ IsInt w' g (val s.data.toList) ∧ Below g w w' := by
  have HR := Hid.mk hrow
  have HG := Hid.mk hg
  have hb0 := Bw.rowB_at' HR.out 0 h1
  have hs0 : ((s[0].toNat : Int) == 45) = false := by rw [beq_eq_false_iff_ne]; omega
  have hs1 : ((s[0].toNat : Int) == 43) = false := by rw [beq_eq_false_iff_ne]; omega
  have hs2 : ((s.size : Int) == 0) = false := by rw [beq_eq_false_iff_ne]; omega
  clear hrow hg hb0
  go_enter Tryz.func106, Tryz.ntmps106
  go_wp2_with fail
  clear hs0 hs1 hs2
  go_loopw [9, 10] (fun r i wr => ∃ (k : Nat) (xs : List Nat), k ≤ s.size ∧ i = .int .i64 k ∧ IsW wr r xs ∧ trimW xs ∧ valW xs = val (s.data.toList.take k) ∧ Below w.heap.size w wr) (fun _ i _ => s.size - (intOf i).toNat)
  case atStart => exact ⟨0, [], Nat.zero_le _, rfl, isW_nil _, Or.inl rfl, rfl, Below.refl _ _⟩
  case round =>
    obtain ⟨k, xs, hk, rfl, hW, hT, hV, hbel⟩ := hrel
    have hvl := val_lt _ (rowB_take HR.out k)
    have hxl : xs.length ≤ 32 := len_of_val hT hV _ hvl 32 (by rw [List.length_take]; omega)
    have HW := Hid.mk hW
    have HV := Hid.mk hV
    have hTr := hT
    clear hW hV hT hvl
    by_cases hlt : k < s.size
    · have hlt' : (k : Int) < (s.size : Int) := by omega
      have hb := Bw.rowB_at' HR.out k hlt
      have hd := (bit_dig (rowB_at HR.out k hlt)).2
      have htk := take_snoc s k hlt
      have HTK := Hid.mk htk
      obtain ⟨d, hdE⟩ : ∃ d, d = dig s[k] := ⟨_, rfl⟩
      rw [← hdE] at hd
      have hd1 : d ≤ 1 := by omega
      have HDE := Hid.mk hdE
      have hsk : (s[k].toNat : Int) - 48 = (d : Int) := by omega
      have h48 : (48 : Int) ≤ (s[k].toNat : Int) := by omega
      have h49 : (s[k].toNat : Int) ≤ 49 := by omega
      have HSK := Hid.mk hsk
      clear hb hd htk hdE hsk
      go_wp2_with fail
      refine (words_any 2 _ (by omega)).mono ?_
      rintro e w1 ⟨v1, ys1, rfl, hy1, hyv1, hyt1, hyl1, hb1⟩
      have HY1 := Hid.mk hy1
      have HYV1 := Hid.mk hyv1
      have hW1 := HW.out.below hb1
      have HW1 := Hid.mk hW1
      have hbel1 := bl2 hbel hb1
      clear hy1 hyv1 hW1 hyt1 hb1 hbel HW
      go_wp2_with fail
      refine (mul_any _ _ xs ys1 _ HW1.out HY1.out (by omega) (by omega)).mono ?_
      rintro e w2 ⟨v2, ys2, rfl, hy2, hyv2, hyt2, hyl2, hb2⟩
      have HY2 := Hid.mk hy2
      have HYV2 := Hid.mk hyv2
      have hbel2 := bl2 hbel1 hb2
      clear hy2 hyv2 hyt2 hb2 hbel1 HW1
      go_wp2_with fail
      rw [HSK.out]
      refine (words_any d _ (by omega)).mono ?_
      rintro e w3 ⟨v3, ys3, rfl, hy3, hyv3, hyt3, hyl3, hb3⟩
      have HY3 := Hid.mk hy3
      have HYV3 := Hid.mk hyv3
      have hY2 := HY2.out.below hb3
      have HY23 := Hid.mk hY2
      have hbel3 := bl2 hbel2 hb3
      clear hy3 hyv3 hY2 hyt3 hb3 hbel2 HY2
      go_wp2_with fail
      refine (add_any _ _ ys2 ys3 _ HY23.out HY3.out (by omega) (by omega)).mono ?_
      rintro e w4 ⟨v4, ys4, rfl, hy4, hyv4, hyt4, hyl4, hb4⟩
      have hval : valW ys4 = val (s.data.toList.take (k + 1)) := by
        rw [hyv4, HYV3.out, HYV2.out, HYV1.out, HV.out, HTK.out, val_snoc, ← HDE.out]; omega
      have HVAL := Hid.mk hval
      have HY4 := Hid.mk hy4
      have HT4 := Hid.mk hyt4
      have hbel4 := bl2 hbel3 hb4
      clear hval hy4 hyt4 hyv4 hb4 hbel3 HY23 HY3 HYV3 HYV2 HYV1 HV hyl4 hyl3 hyl2 hyl1 h48 h49 hd1 hxl
      set_option maxRecDepth 30000 in
      go_wp2_with fail
      go_roundw
      case rel => exact ⟨k + 1, ys4, by omega, by go_num, HY4.out, HT4.out, HVAL.out, hbel4⟩
      case measure => simp [intOf]; omega
    · have e : k = s.size := by omega
      subst e
      have hgl : g < w.heap.size := by
        rcases Nat.lt_or_ge g w.heap.size with h | h
        · exact h
        · have := HG.out
          rw [Array.getElem?_eq_none h] at this
          cases this
      have hgr : wr.heap[g]? = some (.cells #[.bool false, .slice none 0 0] 110 (0, 0)) := by
        rw [hbel.block g hgl]
        exact HG.out
      have hc0 := cell_of_row wr g 0 _ _ _ hgr
      have hc1 := cell_of_row wr g 1 _ _ _ hgr
      have hf0 := frozen_of_row wr g 0 _ _ hgr
      have hf1 := frozen_of_row wr g 1 _ _ hgr
      simp only [List.getElem?_toArray, List.getElem?_cons_zero, List.getElem?_cons_succ] at hc0 hc1
      have HGR := Hid.mk hgr
      have hfull : s.data.toList.take s.size = s.data.toList := List.take_of_length_le (by simp)
      have HF := Hid.mk hfull
      obtain ⟨av, ac, hu9, -, -, -, -, -⟩ := HW.out
      have HUU := Hid.mk hu9
      have hst1 := heap_setCell_same wr g 1 _ _ (.slice av xs.length ac) HGR.out
      have hst2 := heap_setCell_same _ g 0 _ _ (.bool false) hst1
      have hbg : Below g w ((wr.setCell ⟨g, 1, none⟩ (.slice av xs.length ac)).setCell ⟨g, 0, none⟩ (.bool false)) :=
        ((hbel.mono (Nat.le_of_lt hgl)).setCell (Nat.le_refl _) _).setCell (Nat.le_refl _) _
      have hIW : IsW ((wr.setCell ⟨g, 1, none⟩ (.slice av xs.length ac)).setCell ⟨g, 0, none⟩ (.bool false)) (.slice av xs.length ac) xs := by
        rw [← hu9]
        exact isW_apart HW.out HGR.out
      have HST := Hid.mk hst2
      have HBG := Hid.mk hbg
      have HIW := Hid.mk hIW
      have HT := Hid.mk hTr
      clear hgr hfull hst1 hst2 hbg hIW hTr
      go_wp2_with go_in
      go_ret2
      exact ⟨⟨_, rfl⟩, ⟨_, xs, HST.out, HIW.out, HT.out, by rw [HV.out, HF.out]⟩, HBG.out⟩
end Ww
end Go.Proofs.YtemohjamcdkcmaaGreatDoor
namespace Go.Proofs.YtemohjamcdkcmaaGreatDoor
open Go.ChangeShapes Go.WideShapes Go.ChangeAt Go.RowKit
namespace Ww
open Wm Bm

def isStruct (w : World) (g : Nat) : Prop := ∃ b s l c, w.heap[g]? = some (.cells #[.bool b, .slice s l c] 110 (0, 0))
theorem IsInt.struct {w : World} {g n : Nat} (h : IsInt w g n) : isStruct w g := by
  obtain ⟨va, xs, hg, ⟨a, c, rfl, _⟩, _, _⟩ := h
  exact ⟨_, _, _, _, hg⟩
/-- but for one block all that was there is as it was -/
structure Touch (g : Nat) (w w' : World) : Prop where
  os : w'.os = w.os
  tape : w'.tape = w.tape
  output : w'.output = w.output
  size : w.heap.size ≤ w'.heap.size
  block : ∀ k, k < w.heap.size → k ≠ g → w'.heap[k]? = w.heap[k]?
theorem Touch.refl (g : Nat) (w : World) : Touch g w w := ⟨rfl, rfl, rfl, Nat.le_refl _, fun _ _ _ => rfl⟩
theorem Touch.trans {g : Nat} {a b c : World} (h : Touch g a b) (k : Touch g b c) : Touch g a c :=
  ⟨k.os.trans h.os, k.tape.trans h.tape, k.output.trans h.output, Nat.le_trans h.size k.size, fun i hi hg => (k.block i (Nat.lt_of_lt_of_le hi h.size) hg).trans (h.block i hi hg)⟩
theorem Touch.of_below {g : Nat} {w w' : World} (h : Below w.heap.size w w') : Touch g w w' := ⟨h.os, h.tape, h.output, h.size, fun k hk _ => h.block k hk⟩
theorem Touch.below {g B : Nat} {w w' : World} (h : Touch g w w') (hB : B ≤ g) (hs : B ≤ w.heap.size) : Below B w w' :=
  ⟨h.os, h.tape, h.output, h.size, fun k hk => h.block k (by omega) (by omega)⟩
theorem Touch.set (g : Nat) (w : World) (j : Nat) (u : Value) : Touch g w (w.setCell ⟨g, j, none⟩ u) :=
  ⟨rfl, rfl, rfl, by simp [World.setCell], fun _ _ hk => Below.heap_setCell _ _ _ _ hk⟩
theorem cell_block {w : World} {a : Addr} {v : Value} (hc : w.cell? a = some v) : a.block < w.heap.size := by
  rcases Nat.lt_or_ge a.block w.heap.size with h | h
  · exact h
  · unfold World.cell? at hc
    rw [Array.getElem?_eq_none h] at hc
    simp at hc
/-- words lie in no block of a struct -/
theorem word_apart {w : World} {g : Nat} (hg : isStruct w g) {a : Addr} {x : Int} (hc : w.cell? a = some (.int .u32 x)) : a.block ≠ g := by
  intro e
  obtain ⟨b, s, l, c, hh⟩ := hg
  obtain ⟨k, o, t⟩ := a
  simp only at e
  subst e
  unfold World.cell? at hc
  simp only [hh] at hc
  match o, hc with
  | 0, hc => simp at hc
  | 1, hc => simp at hc
  | o + 2, hc => simp at hc
theorem IsW.touch {w w' : World} {v : Value} {xs : List Nat} {g : Nat} (h : IsW w v xs) (hg : isStruct w g) (ht : Touch g w w') : IsW w' v xs := by
  obtain ⟨a, c, h1, h2, h3, h4, h5, h6⟩ := h
  refine ⟨a, c, h1, h2, h3, h4, fun x hx i hi => ?_, h6⟩
  have hc := h5 x hx i hi
  have hb := ht.block (x.add i).block (cell_block hc) (word_apart hg hc)
  rw [World.cell?_of_block (w := w) hb]
  exact hc
theorem IsInt.touch {w w' : World} {h n g : Nat} (hI : IsInt w h n) (hne : h ≠ g) (hg : isStruct w g) (ht : Touch g w w') : IsInt w' h n := by
  obtain ⟨va, xs, hh, hw, hr⟩ := hI
  have hlt : h < w.heap.size := by
    rcases Nat.lt_or_ge h w.heap.size with h' | h'
    · exact h'
    · rw [Array.getElem?_eq_none h'] at hh; cases hh
  exact ⟨va, xs, by rw [ht.block h hlt hne]; exact hh, hw.touch hg ht, hr⟩
theorem IsInt.below {w w' : World} {h n : Nat} (hI : IsInt w h n) (hb : Below w.heap.size w w') : IsInt w' h n := by
  obtain ⟨va, xs, hh, hw, hr⟩ := hI
  have hlt : h < w.heap.size := by
    rcases Nat.lt_or_ge h w.heap.size with h' | h'
    · exact h'
    · rw [Array.getElem?_eq_none h'] at hh; cases hh
  exact ⟨va, xs, by rw [hb.block h hlt]; exact hh, hw.below hb, hr⟩

set_option maxHeartbeats 2000000 in
theorem give_any (g : Nat) (va : Value) (xs : List Nat) (w : World) (hg : isStruct w g) (hW : IsW w va xs) (ht : trimW xs) :
    Calls Tryz.prog 107 #[.pointer (some ⟨g, 0, none⟩), .bool false, va] w fun e w' => e = .returned (.pointer (some ⟨g, 0, none⟩)) ∧ IsInt w' g (valW xs) ∧ Touch g w w' := by
  have HS := Hid.mk hg
  obtain ⟨b, s, l, c, hh⟩ := hg
  obtain ⟨a, ca, rfl, hr⟩ := hW
  have HW : Hid (IsW w (.slice a xs.length ca) xs) := ⟨a, ca, rfl, hr⟩
  have hc0 := cell_of_row w g 0 _ _ _ hh
  have hc1 := cell_of_row w g 1 _ _ _ hh
  have hf0 := frozen_of_row w g 0 _ _ hh
  have hf1 := frozen_of_row w g 1 _ _ hh
  simp only [List.getElem?_toArray, List.getElem?_cons_zero, List.getElem?_cons_succ] at hc0 hc1
  have hst1 := heap_setCell_same w g 1 _ _ (.slice a xs.length ca) hh
  have hst2 := heap_setCell_same _ g 0 _ _ (.bool false) hst1
  have htt : Touch g w ((w.setCell ⟨g, 1, none⟩ (.slice a xs.length ca)).setCell ⟨g, 0, none⟩ (.bool false)) := (Touch.set g w 1 _).trans (Touch.set g _ 0 _)
  have HST := Hid.mk hst2
  have HTT := Hid.mk htt
  have HT := Hid.mk ht
  clear hh hr hst1 hst2 htt ht
  go_enter Tryz.func107, Tryz.ntmps107
  go_wp2_with fail
  go_ret
  exact ⟨rfl, ⟨_, xs, HST.out, HW.out.touch HS.out HTT.out, HT.out, rfl⟩, HTT.out⟩

set_option maxHeartbeats 2000000 in
theorem bitLen_any (g n : Nat) (w : World) (h : IsInt w g n) (hn : n < 2 ^ 5000) :
    Calls Tryz.prog 82 #[.pointer (some ⟨g, 0, none⟩)] w fun e w' => ∃ L : Nat, e = .returned (.int .i64 L) ∧ n < 2 ^ L ∧ (L = 0 ∨ 2 ^ (L - 1) ≤ n) ∧ L ≤ 6000 ∧ w' = w := by
  obtain ⟨va, xs, hh, hW, ht, hv⟩ := h
  have hxl : xs.length ≤ 157 := len_of_val ht hv 5000 hn 157 (by omega)
  have hlen := length_any va xs w hW (by omega) ht
  rw [hv] at hlen
  obtain ⟨a, ca, rfl, hr⟩ := hW
  have hc1 := cell_of_row w g 1 _ _ _ hh
  simp only [List.getElem?_toArray, List.getElem?_cons_zero, List.getElem?_cons_succ] at hc1
  have HL := Hid.mk hlen
  clear hn hlen hr hh ht hv
  go_enter Tryz.func82, Tryz.ntmps82
  go_wp2_with fail
  refine HL.out.mono ?_
  rintro e w1 ⟨L, rfl, h1, h2, h3, hw1⟩
  subst hw1
  have H1 := Hid.mk h1
  have H2 := Hid.mk h2
  clear h1 h2
  go_wp2_with fail
  go_ret
  exact ⟨L, rfl, H1.out, H2.out, by omega, rfl⟩

set_option maxHeartbeats 2000000 in
theorem newInt_any (n : Nat) (w : World) (hn : n ≤ 4294967295) :
    Calls Tryz.prog 79 #[.int .i64 n] w fun e w' => e = .returned (.pointer (some ⟨w.heap.size, 0, none⟩)) ∧ IsInt w' w.heap.size n ∧ Below w.heap.size w w' := by
  have hn' : (n : Int) ≤ 4294967295 := by omega
  have hw := fun W => words_any n W (by omega)
  have HW := Hid.mk hw
  clear hn hw
  go_enter Tryz.func79, Tryz.ntmps79
  go_wp2_with (go_at_call 109; go_in)
  refine (HW.out _).mono ?_
  rintro e w1 ⟨v', ys, rfl, hy, hyv, hyt, hyl, hb1⟩
  have hs1 : isStruct w1 w.heap.size := ⟨false, none, 0, 0, by
    rw [hb1.block w.heap.size (by simp)]
    exact heap_alloc_new w _⟩
  have hgv := give_any w.heap.size v' ys w1 hs1 hy hyt
  rw [hyv] at hgv
  have hbw : Below w.heap.size w w1 := ((Below.refl _ _).alloc (Nat.le_refl _) _).trans (hb1.mono (by simp))
  have HG := Hid.mk hgv
  clear hgv hs1 hy hyv hyt hb1
  go_wp2_with fail
  refine HG.out.mono ?_
  rintro e w2 ⟨rfl, hI, ht⟩
  have HI := Hid.mk hI
  have hb2 := hbw.trans (ht.below (Nat.le_refl _) hbw.size)
  clear hI ht
  go_wp2_with fail
  go_ret
  exact ⟨rfl, HI.out, hb2⟩
end Ww
end Go.Proofs.YtemohjamcdkcmaaGreatDoor
namespace Go.Proofs.YtemohjamcdkcmaaGreatDoor
open Go.ChangeShapes Go.WideShapes Go.ChangeAt Go.RowKit
namespace Ww
open Wm Bm

theorem isStruct.below {w w' : World} {g : Nat} (h : isStruct w g) (hb : Below w.heap.size w w') : isStruct w' g := by
  obtain ⟨b, s, l, c, hh⟩ := h
  have hlt : g < w.heap.size := by
    rcases Nat.lt_or_ge g w.heap.size with h' | h'
    · exact h'
    · rw [Array.getElem?_eq_none h'] at hh; cases hh
  exact ⟨b, s, l, c, by rw [hb.block g hlt]; exact hh⟩

set_option maxHeartbeats 4000000 in
theorem lsh_any (gz gx nx n : Nat) (w : World) (h : IsInt w gx nx) (hz : isStruct w gz) (hnx : nx < 2 ^ 5000) (hn : n ≤ 5000) :
    Calls Tryz.prog 78 #[.pointer (some ⟨gz, 0, none⟩), .pointer (some ⟨gx, 0, none⟩), .int .u64 n] w fun e w' => e = .returned (.pointer (some ⟨gz, 0, none⟩)) ∧ IsInt w' gz (nx * 2 ^ n) ∧ Touch gz w w' := by
  obtain ⟨va, xs, hh, hW, ht, hv⟩ := h
  have hxl : xs.length ≤ 157 := len_of_val ht hv 5000 hnx 157 (by omega)
  have HW := Hid.mk hW
  have HZ := Hid.mk hz
  obtain ⟨a, ca, rfl, hr⟩ := hW
  have hc0 := cell_of_row w gx 0 _ _ _ hh
  have hc1 := cell_of_row w gx 1 _ _ _ hh
  simp only [List.getElem?_toArray, List.getElem?_cons_zero, List.getElem?_cons_succ] at hc0 hc1
  have HV := Hid.mk hv
  have HWD : Hid (IsW w.drew (.slice a xs.length ca) xs) := HW.out
  have HZD : Hid (isStruct w.drew gz) := HZ.out
  have HC0 : Hid (w.drew.cell? ⟨gx, 0, none⟩ = some (.bool false)) := hc0
  clear hnx hr hh ht hv hz
  go_enter Tryz.func78, Tryz.ntmps78
  go_wp2_with fail
  set_option maxRecDepth 100000 in
  go_region_with (first
    | (go_at_call 108; refine (left_any _ xs n w.drew HWD.out (by omega) (by omega)).mono ?_; rintro e w1 ⟨v1, rs, rfl, hW1, hv1, ht1, hl1, hb1⟩
       have hc01 := Bw.cell_kept hb1 HC0.out
       have hgv := give_any gz v1 rs w1 (isStruct.below HZD.out hb1) hW1 ht1
       have htt : Touch gz w w1 := ⟨hb1.os, hb1.tape, hb1.output, hb1.size, fun k hk _ => hb1.block k hk⟩
       have HT1 := Hid.mk htt
       have HG := Hid.mk hgv
       have HV1 := Hid.mk hv1
       clear hW1 hv1 ht1 hl1 hgv htt hb1)
    | (go_at_call 107; refine HG.out.mono ?_; rintro e w2 ⟨rfl, hI2, ht2⟩))
  all_goals focus
    have HI2 := Hid.mk hI2
    clear hI2
    go_wp2_with fail
    go_ret
    exact ⟨rfl, by rw [← HV.out, ← HV1.out]; exact HI2.out, HT1.out.trans ht2⟩

end Ww
end Go.Proofs.YtemohjamcdkcmaaGreatDoor
namespace Go.Proofs.YtemohjamcdkcmaaGreatDoor
open Go.ChangeShapes Go.WideShapes Go.ChangeAt Go.RowKit
namespace Ww
open Wm Bm

theorem owns_of_heap {w : World} {base g m : Nat} {zs : List Nat} (hh : w.heap[g]? = some (.cells (cellsW zs).toArray 141 (0, 0))) (hl : zs.length = m) (hb : base ≤ g) (hm : m ≤ maxLen) :
    w.ownsRow base 141 1 (.slice (some ⟨g, 0, none⟩) m m) m (cellsW zs) := by
  have hc : (cellsW zs).length = m := by rw [cellsW, List.length_map, hl]
  exact ⟨by rw [hc, Nat.mul_one], Or.inr ⟨g, m, (cellsW zs).toArray, rfl, hb, hh, Nat.le_refl _, hm, by rw [List.size_toArray, hc, Nat.mul_one], by rw [Nat.mul_one]; show (cellsW zs).take m = cellsW zs; exact List.take_of_length_le (by omega)⟩⟩
theorem splice_low (xs : List Nat) (m : Nat) : splice (List.replicate m (Value.int .u32 0)) 0 (cellsW xs) = cellsW (xs ++ List.replicate (m - xs.length) 0) := by
  simp [splice, cellsW, List.drop_replicate]

theorem heap_of_made {w : World} {base g m : Nat} (h : w.ownsRow base 141 1 (.slice (some ⟨g, 0, none⟩) m m) m (madeCells (Value.int .u32 0).cells (m * 1)).toList) :
    w.heap[g]? = some (.cells (List.replicate m (Value.int .u32 0)).toArray 141 (0, 0)) := by
  rw [Nat.mul_one, show (Value.int .u32 0).cells = #[Value.int .u32 0] from rfl, toList_madeCells_one] at h
  obtain ⟨hl, h'⟩ := h
  rcases h' with ⟨h0, _⟩ | ⟨g', cap, cur, hv, hb, hh, h1, h2, h3, h4⟩
  · cases h0
  · cases hv
    rw [hh]
    rw [Nat.mul_one] at h3 h4
    have e : cur.toList = List.replicate m (Value.int .u32 0) := by
      rw [← h4]; exact (List.take_of_length_le (by simp; omega)).symm
    rw [← e]
theorem copy_len {X : List Value} {nA m : Nat} (h : X.length = nA) (hm : nA ≤ m) : X.length = Nat.min nA m := by rw [h]; exact (Nat.min_eq_left hm).symm
theorem copy_fit {X : List Value} {nA m : Nat} (h : X.length = nA) (hm : nA ≤ m) : 0 + X.length ≤ (List.replicate m (Value.int .u32 0)).length := by rw [List.length_replicate]; omega
theorem copy_src {X : List Value} {nA : Nat} {xs : List Nat} {a : Option Addr} {W : World} (hna : a = none → xs.length = 0) (hl : nA = xs.length) (hX : X.length = nA) (h0 : 0 < X.length)
    (hc : ∀ ad, a = some ad → ∀ j v, X[j]? = some v → W.cell? (ad.add j) = some v) : ∃ ad, a = some ad ∧ ∀ j v, X[j]? = some v → W.cell? (ad.add j) = some v := by
  cases a with
  | none => have := hna rfl; omega
  | some ad => exact ⟨ad, rfl, hc ad rfl⟩

set_option maxHeartbeats 4000000 in
theorem low_any (g m : Nat) (va : Value) (xs : List Nat) (w : World) (hh : w.heap[g]? = some (.cells #[.bool false, va] 110 (0, 0))) (hW : IsW w va xs) (hm : xs.length ≤ m) (hm2 : m ≤ 10000) :
    Calls Tryz.prog 110 #[.pointer (some ⟨g, 0, none⟩), .int .i64 m] w fun e w' => e = .returned (.slice (some ⟨w.heap.size, 0, none⟩) m m) ∧
      w'.ownsRow w.heap.size 141 1 (.slice (some ⟨w.heap.size, 0, none⟩) m m) m (cellsW (xs ++ List.replicate (m - xs.length) 0)) ∧ Below w.heap.size w w' := by
  obtain ⟨i0, hi, hz0, hz1, hz2⟩ := info_parts info_u32
  obtain ⟨a, ca, rfl, hca, hma, hna, hcea, hoa⟩ := hW
  have hc0 := cell_of_row w g 0 _ _ _ hh
  have hc1 := cell_of_row w g 1 _ _ _ hh
  simp only [List.getElem?_toArray, List.getElem?_cons_zero, List.getElem?_cons_succ] at hc0 hc1
  have HCE := Hid.mk hcea
  have HNA := Hid.mk hna
  have HC0 := Hid.mk hc0
  obtain ⟨nA, hnA⟩ : ∃ n, n = xs.length := ⟨_, rfl⟩
  obtain ⟨X, hX⟩ : ∃ X, X = cellsW xs := ⟨_, rfl⟩
  have hXl : X.length = nA := by rw [hX, cellsW, List.length_map, hnA]
  have hX1 : ∀ v ∈ X, v.oneCell' = true := by
    rw [hX]; intro v hv
    rw [cellsW, List.mem_map] at hv
    obtain ⟨x, _, rfl⟩ := hv
    rfl
  have hXc : ∀ (ad : Addr), a = some ad → ∀ W, Below w.heap.size w W → ∀ j v, X[j]? = some v → W.cell? (ad.add j) = some v := by
    intro ad had W hb j v hjv
    have hj : j < xs.length := by
      rcases Nat.lt_or_ge j X.length with h | h
      · omega
      · rw [List.getElem?_eq_none h] at hjv; cases hjv
    rw [hX, cellsW_get xs j hj] at hjv
    cases hjv
    exact Bw.cell_kept hb (HCE.out ad had j hj)
  have hsp : splice (List.replicate m (Value.int .u32 0)) 0 X = cellsW (xs ++ List.replicate (m - xs.length) 0) := by rw [hX]; exact splice_low xs m
  have hlen2 : (xs ++ List.replicate (m - xs.length) 0).length = m := by rw [List.length_append, List.length_replicate]; omega
  obtain ⟨R, hR⟩ : ∃ R, R = xs ++ List.replicate (m - xs.length) 0 := ⟨_, rfl⟩
  rw [← hR] at hsp hlen2 ⊢
  rw [← hnA] at hca hm hc1
  have HLA := Hid.mk hnA
  have HXL := Hid.mk hXl
  have HX1 := Hid.mk hX1
  have HXC := Hid.mk hXc
  have HSP := Hid.mk hsp
  have HL2 := Hid.mk hlen2
  have HM := Hid.mk hm
  have HC1 := Hid.mk hc1
  clear hh hcea hna hoa hca hma hc0 hc1 hXl hX1 hXc hsp hX hlen2 hnA hR hm
  go_enter Tryz.func110, Tryz.ntmps110
  set_option maxRecDepth 100000 in
  go_wp2_with (first
    | (at_make; refine wpList_make_full _ rfl (.tmp 8) (.tmp 8) 108 rfl w.heap.size 141 i0 (.int .u32 0) 1 Tryz.underlying108 hi hz0 hz1 .i64 .i64 _ _ m rfl rfl (by omega) (by omega) (by rw [hz2]; omega) (by unfold maxLen; omega) (Nat.le_refl _) ?_; intro w2 hown hgrow
       have hb2 : Below w.heap.size w w2 := Below.grown (Below.refl _ _) hgrow (Nat.le_refl _) (fun q hq => by cases hq)
       have hc0 := Bw.cell_kept hb2 HC0.out
       have hc1 := Bw.cell_kept hb2 HC1.out
       have hg2 := heap_of_made hown
       have HG2 := Hid.mk hg2
       clear hown hgrow hg2)
    | (with_reducible show wpList _ _ _ (Oper.mk (some 15) _ _ _ _ _ :: _) _ _
       refine wpList_copy_splice rfl (.tmp 10) (.tmp 14) 108 108 rfl 141 Tryz.underlying108 (by rw [hi]; simp [hz1]) (some ⟨w.heap.size, 0, none⟩) a m m nA ca rfl rfl w.heap.size 0 (List.replicate m (Value.int .u32 0)) 141 HG2.out X (copy_len HXL.out HM.out) (fun h0 => ⟨rfl, copy_src (fun ha => HNA.out ha) HLA.out HXL.out h0 (fun ad had => HXC.out ad had w2 hb2)⟩) (copy_fit HXL.out HM.out) HX1.out w.heap.size w hb2 (Nat.le_refl _) ?_; intro w3 HG3 hb3
       have hc0' := Bw.cell_kept hb3 HC0.out))
  go_ret
  exact ⟨rfl, owns_of_heap (by rw [← HSP.out]; exact HG3.out) HL2.out (Nat.le_refl _) (by unfold maxLen; omega), hb3⟩

set_option maxHeartbeats 4000000 in
theorem of_any (gz : Nat) (va : Value) (zs : List Nat) (w : World) (hz : isStruct w gz) (hW : IsW w va zs) (h0 : 0 < zs.length) (hl : zs.length ≤ 10000) (htop : zs.getD (zs.length - 1) 0 < 2147483648) :
    Calls Tryz.prog 111 #[.pointer (some ⟨gz, 0, none⟩), va] w fun e w' => e = .returned (.pointer (some ⟨gz, 0, none⟩)) ∧ IsInt w' gz (valW zs) ∧ Touch gz w w' := by
  have HW := Hid.mk hW
  have HZ := Hid.mk hz
  obtain ⟨a, ca, rfl, hca, hma, hna, hcea, hoa⟩ := hW
  cases a with
  | none => exact absurd (hna rfl) (by omega)
  | some p =>
    have hcx := hcea p rfl (zs.length - 1) (by omega)
    obtain ⟨top, htE⟩ : ∃ top, top = zs.getD (zs.length - 1) 0 := ⟨_, rfl⟩
    rw [← htE] at hcx htop
    have htr := fun W (hWW : IsW W (.slice (some p) zs.length ca) zs) => trim_any (.slice (some p) zs.length ca) zs W hWW (by omega)
    have HTR := Hid.mk htr
    obtain ⟨nA, hnA⟩ : ∃ n, n = zs.length := ⟨_, rfl⟩
    rw [← hnA] at HW HTR hcx h0 hl ⊢
    have h1 : (1 : Int) ≤ (nA : Int) := by omega
    have hidx : ((nA : Int) - 1).toNat = nA - 1 := by omega
    have htop0 : (top : Int) / 2147483648 = 0 := by omega
    have hti : (top : Int) ≤ 2147483647 := by omega
    clear hca hma hna hcea hoa hz htr htE hnA htop
    go_enter Tryz.func111, Tryz.ntmps111
    go_wp2_with fail
    refine (HTR.out w HW.out).mono ?_
    rintro e w1 ⟨v1, ys, rfl, hy, hyv, hyt, hyl, hw1⟩
    subst hw1
    have hgv := give_any gz v1 ys w1 HZ.out hy hyt
    rw [hyv] at hgv
    have HG := Hid.mk hgv
    clear hgv hy hyv hyt
    go_wp2_with fail
    refine HG.out.mono ?_
    rintro e w2 ⟨rfl, hI, ht⟩
    have HI := Hid.mk hI
    clear hI
    go_wp2_with fail
    go_ret
    exact ⟨rfl, HI.out, ht⟩
end Ww
end Go.Proofs.YtemohjamcdkcmaaGreatDoor
namespace Go.Proofs.YtemohjamcdkcmaaGreatDoor
open Go.ChangeShapes Go.WideShapes Go.ChangeAt Go.RowKit
namespace Ww
open Wm Bm

theorem xor_word (x y A B : Nat) (hx : x < 4294967296) (hy : y < 4294967296) : (x + 4294967296 * A) ^^^ (y + 4294967296 * B) = (x ^^^ y) + 4294967296 * (A ^^^ B) := by
  have e : (4294967296 : Nat) = 2 ^ 32 := rfl
  have hxy : x ^^^ y < 4294967296 := by rw [e] at *; exact Nat.xor_lt_two_pow hx hy
  have h1 : ((x + 4294967296 * A) ^^^ (y + 4294967296 * B)) % 4294967296 = x ^^^ y := by
    have := Nat.xor_mod_two_pow (a := x + 4294967296 * A) (b := y + 4294967296 * B) (n := 32)
    rw [← e] at this
    rw [this, Nat.add_mul_mod_self_left, Nat.add_mul_mod_self_left, Nat.mod_eq_of_lt hx, Nat.mod_eq_of_lt hy]
  have h2 : ((x + 4294967296 * A) ^^^ (y + 4294967296 * B)) / 4294967296 = A ^^^ B := by
    have := Nat.xor_div_two_pow (a := x + 4294967296 * A) (b := y + 4294967296 * B) (n := 32)
    rw [← e] at this
    rw [this]
    have ea : (x + 4294967296 * A) / 4294967296 = A := by omega
    have eb : (y + 4294967296 * B) / 4294967296 = B := by omega
    rw [ea, eb]
  have := Nat.div_add_mod ((x + 4294967296 * A) ^^^ (y + 4294967296 * B)) 4294967296
  rw [h1, h2] at this
  omega
def xorW : List Nat → List Nat → List Nat
  | x :: xs, y :: ys => (x ^^^ y) :: xorW xs ys
  | _, _ => []
theorem xorW_len : ∀ (a b : List Nat), a.length = b.length → (xorW a b).length = a.length
  | [], [], _ => rfl
  | [], _ :: _, h => by cases h
  | _ :: _, [], h => by cases h
  | x :: xs, y :: ys, h => by rw [xorW, List.length_cons, List.length_cons, xorW_len xs ys (by simpa using h)]
theorem xorW_val : ∀ (a b : List Nat), a.length = b.length → okW a → okW b → valW (xorW a b) = valW a ^^^ valW b
  | [], [], _, _, _ => rfl
  | [], _ :: _, h, _, _ => by cases h
  | _ :: _, [], h, _, _ => by cases h
  | x :: xs, y :: ys, h, ha, hb => by
    rw [xorW, valW, valW, valW, xorW_val xs ys (by simpa using h) (fun z hz => ha z (List.mem_cons_of_mem _ hz)) (fun z hz => hb z (List.mem_cons_of_mem _ hz)),
      xor_word x y _ _ (ha x List.mem_cons_self) (hb y List.mem_cons_self)]
theorem xorW_get : ∀ (a b : List Nat) (i : Nat), a.length = b.length → (xorW a b).getD i 0 = a.getD i 0 ^^^ b.getD i 0
  | [], [], i, _ => by simp [xorW]
  | [], _ :: _, _, h => by cases h
  | _ :: _, [], _, h => by cases h
  | x :: xs, y :: ys, 0, _ => by simp [xorW]
  | x :: xs, y :: ys, i + 1, h => by
    have := xorW_get xs ys i (by simpa using h)
    rw [xorW, List.getD_cons_succ, List.getD_cons_succ, List.getD_cons_succ, this]
theorem xorW_ok (a b : List Nat) (h : a.length = b.length) (ha : okW a) (hb : okW b) : okW (xorW a b) := by
  intro z hz
  obtain ⟨i, hi, rfl⟩ := List.mem_iff_getElem.1 hz
  have e := xorW_get a b i h
  have e2 : (xorW a b).getD i 0 = (xorW a b)[i] := by simp [List.getD, hi]
  rw [← e2, e]
  exact Nat.xor_lt_two_pow (n := 32) (okW_getD ha i) (okW_getD hb i)
/-- the first k words are turned by the others -/
def xorK (a b : List Nat) (k : Nat) : List Nat := (xorW a b).take k ++ a.drop k
theorem xorK_len (a b : List Nat) (k : Nat) (h : a.length = b.length) (hk : k ≤ a.length) : (xorK a b k).length = a.length := by
  unfold xorK
  rw [List.length_append, List.length_take, xorW_len a b h, List.length_drop]; omega
theorem xorK_at (a b : List Nat) (k : Nat) (h : a.length = b.length) (hk : k < a.length) : (xorK a b k).getD k 0 = a.getD k 0 := by
  unfold xorK
  have hl : ((xorW a b).take k).length = k := by rw [List.length_take, xorW_len a b h]; omega
  simp only [List.getD]
  rw [List.getElem?_append_right (by omega), hl, Nat.sub_self, List.getElem?_drop, Nat.add_zero]
theorem xorK_set (a b : List Nat) (k : Nat) (h : a.length = b.length) (hk : k < a.length) : (xorK a b k).set k (a.getD k 0 ^^^ b.getD k 0) = xorK a b (k + 1) := by
  unfold xorK
  have hw := xorW_len a b h
  have hl : ((xorW a b).take k).length = k := by rw [List.length_take, hw]; omega
  rw [List.set_append_right _ _ (by omega), hl, Nat.sub_self, take_snocN (xorW a b) k (by omega), xorW_get a b k h, List.append_assoc]
  congr 1
  rw [List.drop_eq_getElem_cons hk]
  rfl
theorem xorK_full (a b : List Nat) (h : a.length = b.length) : xorK a b a.length = xorW a b := by
  unfold xorK
  rw [List.drop_length, List.append_nil, List.take_of_length_le (by rw [xorW_len a b h]; omega)]
theorem valW_pad (xs : List Nat) (k : Nat) : valW (xs ++ List.replicate k 0) = valW xs := by rw [valW_append, valW_zeros]; simp
theorem okW_pad {xs : List Nat} (h : okW xs) (k : Nat) : okW (xs ++ List.replicate k 0) := okW_append h (fun x hx => by rw [List.eq_of_mem_replicate hx]; omega)
theorem pad_len (xs : List Nat) (m : Nat) (h : xs.length ≤ m) : (xs ++ List.replicate (m - xs.length) 0).length = m := by rw [List.length_append, List.length_replicate]; omega
theorem pad_top (xs : List Nat) (m : Nat) (h : xs.length ≤ m) : (xs ++ List.replicate (m + 1 - xs.length) 0).getD m 0 = 0 := by
  simp only [List.getD]
  rw [List.getElem?_append_right h]
  simp [List.getElem?_replicate]
  split <;> rfl

set_option maxHeartbeats 8000000 in
theorem xor_any (gz gx gy nx ny : Nat) (w : World) (hx : IsInt w gx nx) (hy : IsInt w gy ny) (hz : isStruct w gz) (hnx : nx < 2 ^ 5000) (hny : ny < 2 ^ 5000) :
    Calls Tryz.prog 80 #[.pointer (some ⟨gz, 0, none⟩), .pointer (some ⟨gx, 0, none⟩), .pointer (some ⟨gy, 0, none⟩)] w fun e w' => e = .returned (.pointer (some ⟨gz, 0, none⟩)) ∧ IsInt w' gz (nx ^^^ ny) ∧ Touch gz w w' := by
  obtain ⟨va, xs, hxh, hxW, hxt, hxv⟩ := hx
  obtain ⟨vb, ys, hyh, hyW, hyt, hyv⟩ := hy
  have hxl : xs.length ≤ 157 := len_of_val hxt hxv 5000 hnx 157 (by omega)
  have hyl : ys.length ≤ 157 := len_of_val hyt hyv 5000 hny 157 (by omega)
  have HXW := Hid.mk hxW
  have HYW := Hid.mk hyW
  have HXH := Hid.mk hxh
  have HYH := Hid.mk hyh
  have HZ := Hid.mk hz
  have HXV := Hid.mk hxv
  have HYV := Hid.mk hyv
  obtain ⟨a, ca, rfl, hra⟩ := hxW
  obtain ⟨b, cb, rfl, hrb⟩ := hyW
  have hcx := cell_of_row w gx 1 _ _ _ hxh
  have hcy := cell_of_row w gy 1 _ _ _ hyh
  simp only [List.getElem?_toArray, List.getElem?_cons_zero, List.getElem?_cons_succ] at hcx hcy
  have hox : okW xs := hra.2.2.2.2
  have hoy : okW ys := hrb.2.2.2.2
  have HOX := Hid.mk hox
  have HOY := Hid.mk hoy
  have hcase : ∃ N : Nat, xs.length + 1 ≤ N ∧ ys.length + 1 ≤ N ∧ N ≤ 158 ∧ (((xs.length : Int) < (ys.length : Int) ∧ (ys.length : Int) + 1 = (N : Int)) ∨ ((ys.length : Int) ≤ (xs.length : Int) ∧ (xs.length : Int) + 1 = (N : Int))) := by
    by_cases h : xs.length < ys.length
    · exact ⟨ys.length + 1, by omega, by omega, by omega, .inl ⟨by omega, by omega⟩⟩
    · exact ⟨xs.length + 1, by omega, by omega, by omega, .inr ⟨by omega, by omega⟩⟩
  obtain ⟨N, hN1, hN2, hN3, hcase⟩ := hcase
  have hXl := pad_len xs N (by omega)
  have hYl := pad_len ys N (by omega)
  have hXo := okW_pad hox (N - xs.length)
  have hYo := okW_pad hoy (N - ys.length)
  have hXv := valW_pad xs (N - xs.length)
  have hYv := valW_pad ys (N - ys.length)
  have hXt : (xs ++ List.replicate (N - xs.length) 0).getD (N - 1) 0 = 0 := by
    obtain ⟨q, rfl⟩ : ∃ q, N = q + 1 := ⟨N - 1, by omega⟩
    exact pad_top xs q (by omega)
  have hYt : (ys ++ List.replicate (N - ys.length) 0).getD (N - 1) 0 = 0 := by
    obtain ⟨q, rfl⟩ : ∃ q, N = q + 1 := ⟨N - 1, by omega⟩
    exact pad_top ys q (by omega)
  have hlowx := fun W h1 h2 => low_any gx N (.slice a xs.length ca) xs W h1 h2 (by omega) (by omega)
  have hlowy := fun W h1 h2 => low_any gy N (.slice b ys.length cb) ys W h1 h2 (by omega) (by omega)
  generalize xs ++ List.replicate (N - xs.length) 0 = XA at *
  generalize ys ++ List.replicate (N - ys.length) 0 = YB at *
  have HXl := Hid.mk hXl
  have HYl := Hid.mk hYl
  have HXo := Hid.mk hXo
  have HYo := Hid.mk hYo
  have HXv := Hid.mk hXv
  have HYv := Hid.mk hYv
  have HXt := Hid.mk hXt
  have HYt := Hid.mk hYt
  have HLX := Hid.mk hlowx
  have HLY := Hid.mk hlowy
  clear hnx hny hra hrb hxh hyh hz hxv hyv hxt hyt hox hoy hXl hYl hXo hYo hXv hYv hXt hYt hlowx hlowy
  go_enter Tryz.func80, Tryz.ntmps80
  rcases hcase with ⟨hle, hNe⟩ | ⟨hle, hNe⟩
  all_goals focus
    have HNE := Hid.mk hNe
    clear hNe
    go_wp2_with fail
    go_quiet (fail)
    go_wp2_with fail
    rw [HNE.out]
    have hXd : (w.drewN nq).heap[gx]? = some (.cells #[.bool false, .slice a xs.length ca] 110 (0, 0)) := HXH.out
    have hYd : (w.drewN nq).heap[gy]? = some (.cells #[.bool false, .slice b ys.length cb] 110 (0, 0)) := HYH.out
    have hXw : IsW (w.drewN nq) (.slice a xs.length ca) xs := HXW.out
    have hYw : IsW (w.drewN nq) (.slice b ys.length cb) ys := HYW.out
    have hgl : gy < (w.drewN nq).heap.size := by
      rcases Nat.lt_or_ge gy (w.drewN nq).heap.size with h | h
      · exact h
      · rw [Array.getElem?_eq_none h] at hYd; cases hYd
    refine (HLX.out (w.drewN nq) hXd hXw).mono ?_
    rintro e w1 ⟨rfl, hownA, hb1⟩
    have hly := HLY.out w1 (by rw [hb1.block gy hgl]; exact hYd) (hYw.below hb1)
    have HLY1 := Hid.mk hly
    have hbw1 : Below w.heap.size w w1 := ⟨hb1.os, hb1.tape, hb1.output, hb1.size, fun k hk => hb1.block k hk⟩
    have hownA1 : w1.ownsRow w.heap.size 141 1 (.slice (some ⟨w.heap.size, 0, none⟩) N N) N (cellsW XA) := hownA
    have hlt1 : w.heap.size < w1.heap.size := (hownA1.lt w.heap.size rfl).2
    clear hXd hYd hXw hYw hgl hownA hb1 hly
    go_wp2_with fail
    refine HLY1.out.mono ?_
    rintro e w2 ⟨rfl, hownB, hb2⟩
    have hownA2 := Bw.ownsRow_below hownA1 hb2
    have hbw2 : Below w.heap.size w w2 := hbw1.trans (hb2.mono (Nat.le_of_lt hlt1))
    clear hownA1 hb2 hbw1 HLY1
    go_wp2_with fail
    go_loopw [10] (fun i wr => ∃ k : Nat, k ≤ N ∧ i = .int .i64 k ∧ wr.ownsRow w.heap.size 141 1 (.slice (some ⟨w.heap.size, 0, none⟩) N N) N (cellsW (xorK XA YB k)) ∧
        wr.ownsRow w1.heap.size 141 1 (.slice (some ⟨w1.heap.size, 0, none⟩) N N) N (cellsW YB) ∧ Below w.heap.size w wr) (fun i _ => N - (intOf i).toNat)
    case atStart => exact ⟨0, Nat.zero_le _, rfl, by rw [show xorK XA YB 0 = XA by simp [xorK]]; exact hownA2, hownB, hbw2⟩
    case round =>
      clear hownA2 hownB hbw2
      obtain ⟨k, hk, rfl, hownA, hownB, hbel⟩ := hrel
      by_cases hlt : k < N
      · have hlt' : (k : Int) < (N : Int) := by omega
        have hcA := hownA.cellAt k (by omega)
        have hfA := hownA.frozenAt k
        have hcB := hownB.cellAt k (by omega)
        rw [cellsW_get _ k (by rw [xorK_len _ _ _ (by rw [HXl.out, HYl.out]) (by rw [HXl.out]; omega), HXl.out]; exact hlt), xorK_at _ _ _ (by rw [HXl.out, HYl.out]) (by rw [HXl.out]; exact hlt)] at hcA
        rw [cellsW_get _ k (by rw [HYl.out]; exact hlt)] at hcB
        have hxk := okW_getD HXo.out k
        have hyk := okW_getD HYo.out k
        have hset := xorK_set XA YB k (by rw [HXl.out, HYl.out]) (by rw [HXl.out]; exact hlt)
        obtain ⟨xk, hxE⟩ : ∃ xk, xk = XA.getD k 0 := ⟨_, rfl⟩
        obtain ⟨yk, hyE⟩ : ∃ yk, yk = YB.getD k 0 := ⟨_, rfl⟩
        rw [← hxE] at hcA hxk hset
        rw [← hyE] at hcB hyk hset
        have hxr := u32_xor_nat xk yk hxk hyk
        obtain ⟨z, hzE⟩ : ∃ z, z = xk ^^^ yk := ⟨_, rfl⟩
        rw [← hzE] at hxr hset
        have hst := hownA.stored k (.int .u32 (z : Int))
        rw [cellsW_setAt, hset] at hst
        have hB2 := hownB.kept hst.2 (.inr (by simp [Value.ownBlock]; omega))
        have hbel2 := hbel.grown hst.2 hbel.size (fun q hq => by cases hq; exact Nat.le_refl _)
        have HA2 := Hid.mk hst.1
        have HB2 := Hid.mk hB2
        clear hxE hyE hzE hset hst hB2 hownA hownB hxk hyk hbel
        go_wp2_with fail
        go_region
        all_goals focus
          go_wp2_with fail
          go_roundw
          case rel => exact ⟨k + 1, by omega, by go_num, HA2.out.drew, HB2.out.drew, hbel2.drew⟩
          case measure => simp [intOf]; omega
      · have e : k = N := by omega
        subst e
        have hWA : IsW wr (.slice (some ⟨w.heap.size, 0, none⟩) k k) (xorK XA YB k) := isW_own hownA (by rw [xorK_len _ _ _ (by rw [HXl.out, HYl.out]) (by rw [HXl.out]; omega), HXl.out]) (by unfold maxLen; omega) (by
          rw [show xorK XA YB k = xorW XA YB by rw [← HXl.out]; exact xorK_full XA YB (by rw [HXl.out, HYl.out])]
          exact xorW_ok XA YB (by rw [HXl.out, HYl.out]) HXo.out HYo.out)
        rw [show xorK XA YB k = xorW XA YB by rw [← HXl.out]; exact xorK_full XA YB (by rw [HXl.out, HYl.out])] at hWA
        have hlw : (xorW XA YB).length = k := by rw [xorW_len _ _ (by rw [HXl.out, HYl.out]), HXl.out]
        have hof := of_any gz _ (xorW XA YB) wr (isStruct.below HZ.out hbel) hWA (by omega) (by omega) (by rw [hlw, xorW_get _ _ _ (by rw [HXl.out, HYl.out]), HXt.out, HYt.out]; decide)
        rw [xorW_val _ _ (by rw [HXl.out, HYl.out]) HXo.out HYo.out, HXv.out, HYv.out, HXV.out, HYV.out] at hof
        have HOF := Hid.mk hof
        clear hWA hlw hof hownA hownB
        go_wp2_with fail
        refine HOF.out.mono ?_
        rintro e w3 ⟨rfl, hI, ht⟩
        have HI := Hid.mk hI
        clear hI
        go_wp2_with fail
        go_ret
        exact ⟨rfl, HI.out, (Touch.of_below hbel).trans ht⟩
end Ww
end Go.Proofs.YtemohjamcdkcmaaGreatDoor
namespace Go.Proofs.YtemohjamcdkcmaaGreatDoor
open Go.ChangeShapes Go.WideShapes Go.ChangeAt Go.RowKit
namespace Ww
open Wm Bm

theorem mask_low (n i : Nat) (hn : n < 2 ^ i) (hi : i ≤ 31) : n &&& (4294967295 - 2 ^ i) = n := by
  have hp := Nat.two_pow_pos i
  have hle : n &&& (4294967295 - 2 ^ i) < 2 ^ i := Nat.lt_of_le_of_lt Nat.and_le_left hn
  have e1 : (4294967295 - 2 ^ i) % 2 ^ i = 2 ^ i - 1 := by
    have e32 : 4294967296 = 2 ^ i * 2 ^ (32 - i) := by rw [← Nat.pow_add, show i + (32 - i) = 32 by omega]
    have e2 : 2 ^ (32 - i) = 2 * 2 ^ (31 - i) := by rw [show 32 - i = (31 - i) + 1 by omega, Nat.pow_succ]; omega
    have hp2 := Nat.two_pow_pos (31 - i)
    have e3 : 4294967295 - 2 ^ i = (2 ^ i - 1) + 2 ^ i * (2 ^ (32 - i) - 2) := by
      have : 2 ^ i * (2 ^ (32 - i) - 2) = 2 ^ i * 2 ^ (32 - i) - 2 ^ i * 2 := Nat.mul_sub ..
      rw [this, ← e32]
      have : 2 ^ i * 2 ≤ 4294967296 := by rw [e32, e2]; exact Nat.mul_le_mul_left _ (by omega)
      omega
    rw [e3, Nat.add_mul_mod_self_left]
    exact Nat.mod_eq_of_lt (by omega)
  have e := Nat.and_mod_two_pow (a := n) (b := 4294967295 - 2 ^ i) (n := i)
  rw [Nat.mod_eq_of_lt hle, Nat.mod_eq_of_lt hn, e1, Nat.and_two_pow_sub_one_eq_mod, Nat.mod_eq_of_lt hn] at e
  exact e
theorem bit_clear (n i : Nat) (hn : n < 2 ^ i) (hi : i ≤ 31) : bits .andNot .u32 (n : Int) (2 ^ i % 4294967296) = (n : Int) := by
  have h32 : 2 ^ i ≤ 2 ^ 31 := Nat.pow_le_pow_right (by omega) hi
  have e : ((2 : Int) ^ i % 4294967296) = ((2 ^ i : Nat) : Int) := by
    rw [show (2 : Int) ^ i = ((2 ^ i : Nat) : Int) by simp]; omega
  rw [e, u32_andNot_nat n (2 ^ i) (by omega) (by omega), mask_low n i hn hi]
theorem bit_set (n i : Nat) (hn : n < 2 ^ i) (hi : i ≤ 31) : bits .or .u32 (n : Int) (bits .and .u64 1 1 % 4294967296 * 2 ^ i % 4294967296) = ((2 ^ i + n : Nat) : Int) := by
  have h32 : 2 ^ i ≤ 2 ^ 31 := Nat.pow_le_pow_right (by omega) hi
  have e1 : bits .and .u64 1 1 = 1 := by rfl
  have e : ((1 : Int) % 4294967296 * 2 ^ i % 4294967296) = ((2 ^ i : Nat) : Int) := by
    rw [show (2 : Int) ^ i = ((2 ^ i : Nat) : Int) by simp]; omega
  rw [e1, e, u32_or_nat n (2 ^ i) (by omega) (by omega)]
  congr 1
  have := Nat.two_pow_add_eq_or_of_lt hn 1
  rw [Nat.mul_one] at this
  rw [this, Nat.or_comm]

set_option maxHeartbeats 8000000 in
theorem setBit_any (gz gx nx i : Nat) (w : World) (hx : IsInt w gx nx) (hz : isStruct w gz) (h1 : 1 ≤ nx) (hnx : nx < 2 ^ i) (hi : i ≤ 31) :
    Calls Tryz.prog 81 #[.pointer (some ⟨gz, 0, none⟩), .pointer (some ⟨gx, 0, none⟩), .int .i64 i, .int .u64 1] w fun e w' => e = .returned (.pointer (some ⟨gz, 0, none⟩)) ∧ IsInt w' gz (2 ^ i + nx) ∧ Touch gz w w' := by
  obtain ⟨va, xs, hxh, hxW, hxt, hxv⟩ := hx
  have hi32 : 2 ^ i ≤ 2 ^ 31 := Nat.pow_le_pow_right (by omega) hi
  have hxl : xs.length ≤ 1 := len_of_val hxt hxv 32 (by omega) 1 (by omega)
  have hxs : xs = [nx] := by
    match xs, hxl, hxv with
    | [], _, h => simp [valW] at h; omega
    | [x], _, h => simp [valW] at h; rw [h]
  subst hxs
  have HZ := Hid.mk hz
  have HXH := Hid.mk hxh
  have HXW := Hid.mk hxW
  have hlow := low_any gx 2 va [nx] w hxh hxW (by simp) (by omega)
  obtain ⟨a, ca, rfl, hra⟩ := hxW
  have hcx := cell_of_row w gx 1 _ _ _ hxh
  simp only [List.getElem?_toArray, List.getElem?_cons_zero, List.getElem?_cons_succ] at hcx
  have HL := Hid.mk hlow
  have HNX := Hid.mk hnx
  have HI32 := Hid.mk hi32
  have hq : (i : Int) / 32 = 0 := by omega
  have hr : (i : Int) % 32 = (i : Int) := by omega
  have hii : (i : Int) ≤ 31 := by omega
  clear hra hxh hz hxv hxt hlow hnx hi32 hxl
  go_enter Tryz.func81, Tryz.ntmps81
  go_wp2_with fail
  refine HL.out.mono ?_
  rintro e w1 ⟨rfl, hown, hb1⟩
  have hc0 := hown.cellAt 0 (by omega)
  have hf0 := hown.frozenAt 0
  simp [cellsW] at hc0
  have hk1 := bit_clear nx i HNX.out hi
  have hk2 := bit_set nx i HNX.out hi
  obtain ⟨M, hM⟩ : ∃ M, M = 2 ^ i + nx := ⟨_, rfl⟩
  rw [← hM] at hk2
  have hMb : M < 4294967296 := by rw [hM]; have := HNX.out; have := HI32.out; omega
  have hnb : nx < 4294967296 := by have := HNX.out; have := HI32.out; omega
  have hst1 := hown.stored 0 (.int .u32 (nx : Int))
  have hst2 := hst1.1.stored 0 (.int .u32 (M : Int))
  have hc4 := hst1.1.cellAt 0 (by omega)
  have hf4 := hst1.1.frozenAt 0
  rw [show ((cellsW ([nx] ++ List.replicate (2 - [nx].length) 0)).set 0 (.int .u32 (nx : Int)))[0]? = some (.int .u32 (nx : Int)) by simp [cellsW]] at hc4
  have hfin := hst2.1
  rw [show (((cellsW ([nx] ++ List.replicate (2 - [nx].length) 0)).set 0 (.int .u32 (nx : Int))).set 0 (.int .u32 (M : Int))) = cellsW [M, 0] by simp [cellsW]] at hfin
  have hbel2 := ((hb1.grown hst1.2 hb1.size (fun q hq => by cases hq; exact Nat.le_refl _)).grown hst2.2 (Nat.le_trans hb1.size hst1.2.size) (fun q hq => by cases hq; exact Nat.le_refl _))
  have hWA := isW_own hfin rfl (by unfold maxLen; omega) (by intro x hx; simp at hx; omega)
  have hof := of_any gz _ [M, 0] _ (isStruct.below HZ.out hbel2) hWA (by simp) (by simp) (by simp)
  rw [show valW [M, 0] = M by simp [valW], hM] at hof
  rw [← hM] at hof
  have HOF := Hid.mk hof
  have HB2 := Hid.mk hbel2
  have HMM := Hid.mk hM
  clear HL hown hst1 hst2 hfin hbel2 hWA hof hM hMb hb1
  go_wp2_with fail
  refine HOF.out.mono ?_
  rintro e w3 ⟨rfl, hI, ht⟩
  have HI := Hid.mk hI
  clear hI
  go_wp2_with fail
  go_ret
  exact ⟨rfl, by rw [← HMM.out]; exact HI.out, (Touch.of_below HB2.out).trans ht⟩
end Ww
end Go.Proofs.YtemohjamcdkcmaaGreatDoor
namespace Go.Proofs.YtemohjamcdkcmaaGreatDoor
open Go.ChangeShapes Go.WideShapes Go.ChangeAt Go.RowKit
namespace Ww
open Wm Bm Cm

theorem IsW.uniq {w : World} {v : Value} {xs ys : List Nat} (h : IsW w v xs) (k : IsW w v ys) : xs = ys := by
  obtain ⟨a, c, rfl, _, _, hn, hc, _⟩ := h
  obtain ⟨a', c', e, _, _, _, hc', _⟩ := k
  injection e with e1 e2 e3
  subst e1
  apply List.ext_getElem e2
  intro i h1 h2
  cases a with
  | none => have := hn rfl; omega
  | some p =>
    have g1 := hc p rfl i h1
    have g2 := hc' p rfl i h2
    rw [g1] at g2
    have g3 : (xs.getD i 0 : Int) = (ys.getD i 0 : Int) := by
      injection g2 with g2
      injection g2
    have g4 : xs.getD i 0 = ys.getD i 0 := by omega
    simpa [List.getD, h1, h2] using g4
theorem IsInt.uniq {w : World} {g n m : Nat} (h : IsInt w g n) (k : IsInt w g m) : n = m := by
  obtain ⟨va, xs, hh, hW, _, hv⟩ := h
  obtain ⟨vb, ys, hh', hW', _, hv'⟩ := k
  rw [hh] at hh'
  injection hh' with e
  injection e with e1
  have e2 : va = vb := by
    have := congrArg (fun z : Array Value => z[1]?) e1
    simpa using this
  subst e2
  rw [← hv, ← hv', hW.uniq hW']
open Classical in
noncomputable def valAt (w : World) (g : Nat) : Nat := if h : ∃ n, IsInt w g n then h.choose else 0
theorem valAt_eq {w : World} {g n : Nat} (h : IsInt w g n) : valAt w g = n := by
  unfold valAt
  have hx : ∃ n, IsInt w g n := ⟨n, h⟩
  rw [dif_pos hx]
  exact hx.choose_spec.uniq h

theorem len_uniq {n L K : Nat} (h1 : n < 2 ^ L) (h2 : L = 0 ∨ 2 ^ (L - 1) ≤ n) (k1 : n < 2 ^ K) (k2 : K = 0 ∨ 2 ^ (K - 1) ≤ n) : L = K := by
  have key : ∀ {a b : Nat}, n < 2 ^ a → (b = 0 ∨ 2 ^ (b - 1) ≤ n) → b ≤ a := by
    intro a b ha hb
    rcases hb with rfl | hb
    · omega
    · rcases Nat.lt_or_ge a b with h | h
      · have : 2 ^ a ≤ 2 ^ (b - 1) := Nat.pow_le_pow_right (by omega) (by omega)
        omega
      · exact h
  exact Nat.le_antisymm (key k1 h2) (key h1 k2)
/-- the highest bit goes out -/
theorem red_lt {n L s p : Nat} (h1 : n < 2 ^ L) (h2 : 2 ^ (L - 1) ≤ n) (hs : s < L) (hp : p < 2 ^ s) : n ^^^ ((2 ^ s + p) * 2 ^ (L - s - 1)) < 2 ^ (L - 1) := by
  obtain ⟨k, rfl⟩ : ∃ k, L = s + k + 1 := ⟨L - s - 1, by omega⟩
  have e : s + k + 1 - s - 1 = k := by omega
  rw [e] at *
  rw [show s + k + 1 - 1 = s + k by omega] at *
  have d1 : 2 ^ (s + k) ≤ (2 ^ s + p) * 2 ^ k := by rw [Nat.pow_add]; exact Nat.mul_le_mul_right _ (by omega)
  have d2 : (2 ^ s + p) * 2 ^ k < 2 ^ (s + k + 1) := by
    rw [show s + k + 1 = (s + 1) + k by omega, Nat.pow_add (m := s + 1)]
    exact Nat.mul_lt_mul_of_pos_right (by rw [Nat.pow_succ]; omega) (Nat.two_pow_pos k)
  have hx := top_split n (s + k) h1
  have hd := top_split ((2 ^ s + p) * 2 ^ k) (s + k) d2
  have q1 : n / 2 ^ (s + k) = 1 := by
    have a : 1 ≤ n / 2 ^ (s + k) := (Nat.le_div_iff_mul_le (Nat.two_pow_pos _)).2 (by omega)
    have b : n / 2 ^ (s + k) < 2 := Nat.div_lt_of_lt_mul (by rw [Nat.pow_succ] at h1; omega)
    omega
  have q2 : (2 ^ s + p) * 2 ^ k / 2 ^ (s + k) = 1 := by
    have a : 1 ≤ (2 ^ s + p) * 2 ^ k / 2 ^ (s + k) := (Nat.le_div_iff_mul_le (Nat.two_pow_pos _)).2 (by omega)
    have b : (2 ^ s + p) * 2 ^ k / 2 ^ (s + k) < 2 := Nat.div_lt_of_lt_mul (by rw [Nat.pow_succ] at d2; omega)
    omega
  rw [q1] at hx
  rw [q2] at hd
  rw [hx, hd, xor4, Nat.xor_self, Nat.xor_zero]
  exact lt_xor (Nat.mod_lt _ (Nat.two_pow_pos _)) (Nat.mod_lt _ (Nat.two_pow_pos _))
/-- and what is left differs from it by a multiple -/
theorem red_mul {n T L s p : Nat} (h : Mul (2 ^ s + p) (n ^^^ T)) : Mul (2 ^ s + p) ((n ^^^ ((2 ^ s + p) * 2 ^ (L - s - 1))) ^^^ T) := by
  have := h.xor (Mul.shift (2 ^ s + p) (L - s - 1))
  rw [Nat.xor_assoc, Nat.xor_comm T, ← Nat.xor_assoc] at this
  exact this
end Ww
end Go.Proofs.YtemohjamcdkcmaaGreatDoor
namespace Go.Proofs.YtemohjamcdkcmaaGreatDoor
open Go.ChangeShapes Go.WideShapes Go.ChangeAt Go.RowKit
namespace Ww
open Wm Bm

set_option maxHeartbeats 1000000 in
theorem value_row (s : ByteArray) (w : World) (h2 : s.size ≤ 1000) (hrow : rowB s.data.toList = true) :
    Calls Tryz.prog 77 #[.string s] w fun e w' => e = .returned (.pointer (some ⟨w.heap.size, 0, none⟩)) ∧ IsInt w' w.heap.size (val s.data.toList) ∧ Below w.heap.size w w' := by
  have hnew : (w.alloc (.cells #[.bool false, .slice none 0 0] 110)).heap[w.heap.size]? = some (.cells #[.bool false, .slice none 0 0] 110 (0, 0)) := heap_alloc_new w _
  by_cases h0 : s.size = 0
  · have he : s = ⟨#[]⟩ := by
      cases s with
      | mk d => have : d.size = 0 := h0; rw [Array.eq_empty_of_size_eq_zero this]
    subst he
    have HI : Hid (IsInt (w.alloc (.cells #[.bool false, .slice none 0 0] 110)) w.heap.size (val (ByteArray.mk #[]).data.toList)) := ⟨_, [], hnew, isW_nil _, Or.inl rfl, rfl⟩
    clear hnew hrow h0
    go_enter Tryz.func77, Tryz.ntmps77
    go_wp2_with fail
    go_ret
    exact ⟨rfl, HI.out, (Below.refl _ _).alloc (Nat.le_refl _) _⟩
  · have hset := setString_any w.heap.size s _ (by omega) h2 hrow hnew
    have HS := Hid.mk hset
    have hne3 : (s.toList == []) = false := by
      rw [beq_eq_false_iff_ne, ByteArray.toList_eq]
      intro e
      have := congrArg List.length e
      rw [Array.length_toList] at this
      exact h0 this
    clear hset hnew hrow
    go_enter Tryz.func77, Tryz.ntmps77
    go_wp2_with fail
    refine HS.out.mono ?_
    rintro e w1 ⟨⟨r, rfl⟩, hI, hb⟩
    have HI := Hid.mk hI
    clear hI
    go_wp2_with fail
    go_ret
    exact ⟨rfl, HI.out, ((Below.refl _ _).alloc (Nat.le_refl _) _).trans hb⟩

theorem addr_zero (p : Addr) : p.add 0 = p := by
  cases p with
  | mk b o t => unfold Addr.add; cases t <;> simp

theorem or_hi (x y : Nat) (hx : x < 4294967296) (hy : y < 1073741824) : bits .or .u64 (x : Int) ((y : Int) * 4294967296) = (x : Int) + 4294967296 * (y : Int) := by
  have hc : bits .or .u64 (x : Int) ((y : Int) * 4294967296) = bits .or .u64 ((y : Int) * 4294967296) (x : Int) := by simp only [bits, BitVec.or_comm]
  rw [hc, bits_join .u64 63 (by decide) (fun n h0 h1 => by simp only [IntKind.wrap, IntKind.bits, IntKind.signed]; simp; omega) 32 _ _ (by omega) (by omega) (by omega) (by omega) (by omega) (by omega)]
  omega

set_option maxHeartbeats 2000000 in
theorem int64_any (g n : Nat) (w : World) (h : IsInt w g n) (hn : n < 2 ^ 62) :
    Calls Tryz.prog 83 #[.pointer (some ⟨g, 0, none⟩)] w fun e w' => e = .returned (.int .i64 n) ∧ w' = w := by
  obtain ⟨va, xs, hg, hW, hT, hV⟩ := h
  have hl : xs.length ≤ 2 := len_of_val hT hV 62 hn 2 (by omega)
  obtain ⟨a, c, rfl, hc, hm, hnil, hcells, hok⟩ := hW
  have hc0 := cell_of_row w g 0 _ _ _ hg
  have hc1 := cell_of_row w g 1 _ _ _ hg
  simp only [List.getElem?_toArray, List.getElem?_cons_zero, List.getElem?_cons_succ] at hc0 hc1
  match xs, hl with
  | [], _ =>
    have hn0 : n = 0 := by rw [← hV]; rfl
    subst hn0
    clear hg hcells hnil hok hT hV
    simp only [List.length_nil] at hc1
    go_enter Tryz.func83, Tryz.ntmps83
    go_wp2
    go_ret
    exact ⟨rfl, rfl⟩
  | [x], _ =>
    have hv : x = n := by rw [← hV]; simp [valW]
    subst hv
    cases a with
    | none => exact absurd (hnil rfl) (by simp)
    | some p =>
      have h0 := hcells p rfl 0 (by simp)
      have hx := hok x (by simp)
      have hx' : (x : Int) ≤ 4294967295 := by omega
      rw [addr_zero] at h0
      simp only [List.length_singleton, List.getD_cons_zero] at hc1 h0
      clear hg hcells hnil hok hT hV
      go_enter Tryz.func83, Tryz.ntmps83
      go_wp2
      go_ret
      exact ⟨rfl, rfl⟩
  | [x, y], _ =>
    have hv : n = x + 4294967296 * y := by rw [← hV]; simp [valW]
    cases a with
    | none => exact absurd (hnil rfl) (by simp)
    | some p =>
      have h0 := hcells p rfl 0 (by simp)
      have h1 := hcells p rfl 1 (by simp)
      have hx := hok x (by simp)
      have hy := hok y (by simp)
      have hy2 : y < 1073741824 := by omega
      have hor := or_hi x y hx hy2
      have hx' : (x : Int) ≤ 4294967295 := by omega
      have hy' : (y : Int) ≤ 1073741823 := by omega
      rw [addr_zero] at h0
      simp only [List.length_cons, List.length_nil, List.getD_cons_zero, List.getD_cons_succ] at hc1 h0 h1
      have HV := Hid.mk hv
      have h1' : w.cell? ⟨p.block, p.off + 1, none⟩ = some (.int .u32 (y : Int)) := by rw [← h1]; simp [Addr.add]
      clear hg hcells hnil hok hT hV hv hn h1
      go_enter Tryz.func83, Tryz.ntmps83
      go_wp2
      go_ret
      exact ⟨by rw [HV.out]; rfl, rfl⟩
end Ww
end Go.Proofs.YtemohjamcdkcmaaGreatDoor
