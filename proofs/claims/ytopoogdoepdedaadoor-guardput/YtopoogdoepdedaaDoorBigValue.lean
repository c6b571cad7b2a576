/- What the document's own Value answers of a row: a new big number that holds the row's number; and what Int64 tells of one below 2^62. -/
import Derived.Test.YtopoogdoepdedaaDoorWordsMul
import Derived.Test.YtopoogdoepdedaaDoorWordsAdd
import Derived.Test.YtopoogdoepdedaaDoorRowMath
namespace Go.Proofs.YtopoogdoepdedaaDoor
open Go.ChangeShapes Go.WideShapes Go.ChangeAt Go.RowKit
namespace Ww
open Wm Bm

theorem bl2 {w a b : World} (h1 : Below w.heap.size w a) (h2 : Below a.heap.size a b) : Below w.heap.size w b := h1.trans (h2.mono h1.size)

def IsInt (w : World) (g : Nat) (n : Nat) : Prop :=
  ∃ va xs, w.heap[g]? = some (.cells #[.bool false, va] 58 (0, 0)) ∧ IsW w va xs ∧ trimW xs ∧ valW xs = n

theorem len_of_val {xs : List Nat} {n : Nat} (ht : trimW xs) (hv : valW xs = n) (k : Nat) (hn : n < 2 ^ k) (q : Nat) (hk : k ≤ 32 * q) : xs.length ≤ q :=
  trimW_len ht q (by rw [hv]; exact Nat.lt_of_lt_of_le hn (Nat.pow_le_pow_right (Nat.succ_pos 1) hk))

/-- a slice of words lies apart from a block of a struct -/
theorem isW_apart {w : World} {v : Value} {xs : List Nat} {g : Nat} {u1 u2 : Value} (h : IsW w v xs) (hg : w.heap[g]? = some (.cells #[.bool false, .slice none 0 0] 58 (0, 0))) :
    IsW ((w.setCell ⟨g, 1, none⟩ u1).setCell ⟨g, 0, none⟩ u2) v xs := by
  obtain ⟨a, c, h1, h2, h3, h4, h5, h6⟩ := h
  refine ⟨a, c, h1, h2, h3, h4, fun x hx i hi => ?_, h6⟩
  have hc := h5 x hx i hi
  have n1 : (⟨g, 1, none⟩ : Addr) ≠ x.add i := by
    intro e
    rw [← e, cell_of_row w g 1 _ _ _ hg] at hc
    cases hc
  have n0 : (⟨g, 0, none⟩ : Addr) ≠ x.add i := by
    intro e
    rw [← e, cell_of_row w g 0 _ _ _ hg] at hc
    cases hc
  rw [World.cell?_setCell_other (h := n0), World.cell?_setCell_other (h := n1)]
  exact hc

set_option maxHeartbeats 4000000 in
theorem setString_any (g : Nat) (s : ByteArray) (w : World) (h1 : 0 < s.size) (h2 : s.size ≤ 1000) (hrow : rowB s.data.toList = true) (hg : w.heap[g]? = some (.cells #[.bool false, .slice none 0 0] 58 (0, 0))) :
    Calls Tryd.prog 29 #[.pointer (some ⟨g, 0, none⟩), .string s, .int .i64 2] w fun e w' => (∃ r, e = .returned r) ∧ IsInt w' g (val s.data.toList) ∧ Below g w w' := by
  have HR := Hid.mk hrow
  have HG := Hid.mk hg
  have hb0 := Bw.rowB_at' HR.out 0 h1
  have hs0 : ((s[0].toNat : Int) == 45) = false := by rw [beq_eq_false_iff_ne]; omega
  have hs1 : ((s[0].toNat : Int) == 43) = false := by rw [beq_eq_false_iff_ne]; omega
  have hs2 : ((s.size : Int) == 0) = false := by rw [beq_eq_false_iff_ne]; omega
  clear hrow hg hb0
  go_enter Tryd.func29, Tryd.ntmps29
  go_wp2_with fail
  clear hs0 hs1 hs2
  go_loopw [9, 10] (fun r i wr => ∃ (k : Nat) (xs : List Nat), k ≤ s.size ∧ i = .int .i64 k ∧ IsW wr r xs ∧ trimW xs ∧ valW xs = val (s.data.toList.take k) ∧ Below w.heap.size w wr) (fun _ i _ => s.size - (intOf i).toNat)
  case atStart => exact ⟨0, [], Nat.zero_le _, rfl, isW_nil _, Or.inl rfl, rfl, Below.refl _ _⟩
  case round =>
    obtain ⟨k, xs, hk, rfl, hW, hT, hV, hbel⟩ := hrel
    have hvl := val_lt _ (rowB_take HR.out k)
    have hxl : xs.length ≤ 32 := len_of_val hT hV _ hvl 32 (by rw [List.length_take]; omega)
    have HW := Hid.mk hW
    have HV := Hid.mk hV
    have hTr := hT
    clear hW hV hT hvl
    by_cases hlt : k < s.size
    · have hlt' : (k : Int) < (s.size : Int) := by omega
      have hb := Bw.rowB_at' HR.out k hlt
      have hd := (bit_dig (rowB_at HR.out k hlt)).2
      have htk := take_snoc s k hlt
      have HTK := Hid.mk htk
      obtain ⟨d, hdE⟩ : ∃ d, d = dig s[k] := ⟨_, rfl⟩
      rw [← hdE] at hd
      have hd1 : d ≤ 1 := by omega
      have HDE := Hid.mk hdE
      have hsk : (s[k].toNat : Int) - 48 = (d : Int) := by omega
      have h48 : (48 : Int) ≤ (s[k].toNat : Int) := by omega
      have h49 : (s[k].toNat : Int) ≤ 49 := by omega
      have HSK := Hid.mk hsk
      clear hb hd htk hdE hsk
      go_wp2_with fail
      refine (words_any 2 _ (by omega)).mono ?_
      rintro e w1 ⟨v1, ys1, rfl, hy1, hyv1, hyt1, hyl1, hb1⟩
      have HY1 := Hid.mk hy1
      have HYV1 := Hid.mk hyv1
      have hW1 := HW.out.below hb1
      have HW1 := Hid.mk hW1
      have hbel1 := bl2 hbel hb1
      clear hy1 hyv1 hW1 hyt1 hb1 hbel HW
      go_wp2_with fail
      refine (mul_any _ _ xs ys1 _ HW1.out HY1.out (by omega) (by omega)).mono ?_
      rintro e w2 ⟨v2, ys2, rfl, hy2, hyv2, hyt2, hyl2, hb2⟩
      have HY2 := Hid.mk hy2
      have HYV2 := Hid.mk hyv2
      have hbel2 := bl2 hbel1 hb2
      clear hy2 hyv2 hyt2 hb2 hbel1 HW1
      go_wp2_with fail
      rw [HSK.out]
      refine (words_any d _ (by omega)).mono ?_
      rintro e w3 ⟨v3, ys3, rfl, hy3, hyv3, hyt3, hyl3, hb3⟩
      have HY3 := Hid.mk hy3
      have HYV3 := Hid.mk hyv3
      have hY2 := HY2.out.below hb3
      have HY23 := Hid.mk hY2
      have hbel3 := bl2 hbel2 hb3
      clear hy3 hyv3 hY2 hyt3 hb3 hbel2 HY2
      go_wp2_with fail
      refine (add_any _ _ ys2 ys3 _ HY23.out HY3.out (by omega) (by omega)).mono ?_
      rintro e w4 ⟨v4, ys4, rfl, hy4, hyv4, hyt4, hyl4, hb4⟩
      have hval : valW ys4 = val (s.data.toList.take (k + 1)) := by
        rw [hyv4, HYV3.out, HYV2.out, HYV1.out, HV.out, HTK.out, val_snoc, ← HDE.out]; omega
      have HVAL := Hid.mk hval
      have HY4 := Hid.mk hy4
      have HT4 := Hid.mk hyt4
      have hbel4 := bl2 hbel3 hb4
      clear hval hy4 hyt4 hyv4 hb4 hbel3 HY23 HY3 HYV3 HYV2 HYV1 HV hyl4 hyl3 hyl2 hyl1 h48 h49 hd1 hxl
      set_option maxRecDepth 30000 in
      go_wp2_with fail
      go_roundw
      case rel => exact ⟨k + 1, ys4, by omega, by go_num, HY4.out, HT4.out, HVAL.out, hbel4⟩
      case measure => simp [intOf]; omega
    · have e : k = s.size := by omega
      subst e
      have hgl : g < w.heap.size := by
        rcases Nat.lt_or_ge g w.heap.size with h | h
        · exact h
        · have := HG.out
          rw [Array.getElem?_eq_none h] at this
          cases this
      have hgr : wr.heap[g]? = some (.cells #[.bool false, .slice none 0 0] 58 (0, 0)) := by
        rw [hbel.block g hgl]
        exact HG.out
      have hc0 := cell_of_row wr g 0 _ _ _ hgr
      have hc1 := cell_of_row wr g 1 _ _ _ hgr
      have hf0 := frozen_of_row wr g 0 _ _ hgr
      have hf1 := frozen_of_row wr g 1 _ _ hgr
      simp only [List.getElem?_toArray, List.getElem?_cons_zero, List.getElem?_cons_succ] at hc0 hc1
      have HGR := Hid.mk hgr
      have hfull : s.data.toList.take s.size = s.data.toList := List.take_of_length_le (by simp)
      have HF := Hid.mk hfull
      obtain ⟨av, ac, hu9, -, -, -, -, -⟩ := HW.out
      have HUU := Hid.mk hu9
      have hst1 := heap_setCell_same wr g 1 _ _ (.slice av xs.length ac) HGR.out
      have hst2 := heap_setCell_same _ g 0 _ _ (.bool false) hst1
      have hbg : Below g w ((wr.setCell ⟨g, 1, none⟩ (.slice av xs.length ac)).setCell ⟨g, 0, none⟩ (.bool false)) :=
        ((hbel.mono (Nat.le_of_lt hgl)).setCell (Nat.le_refl _) _).setCell (Nat.le_refl _) _
      have hIW : IsW ((wr.setCell ⟨g, 1, none⟩ (.slice av xs.length ac)).setCell ⟨g, 0, none⟩ (.bool false)) (.slice av xs.length ac) xs := by
        rw [← hu9]
        exact isW_apart HW.out HGR.out
      have HST := Hid.mk hst2
      have HBG := Hid.mk hbg
      have HIW := Hid.mk hIW
      have HT := Hid.mk hTr
      clear hgr hfull hst1 hst2 hbg hIW hTr
      go_wp2_with go_in
      go_ret2
      exact ⟨⟨_, rfl⟩, ⟨_, xs, HST.out, HIW.out, HT.out, by rw [HV.out, HF.out]⟩, HBG.out⟩
end Ww
end Go.Proofs.YtopoogdoepdedaaDoor
