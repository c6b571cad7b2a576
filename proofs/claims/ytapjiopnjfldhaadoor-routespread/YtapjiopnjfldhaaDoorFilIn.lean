/- What filter.In answers. -/
import Derived.Test.YtapjiopnjfldhaaDoorA4
import Derived.Test.YtapjiopnjfldhaaDoorA5
import Derived.Test.YtapjiopnjfldhaaDoorFrCheck
import Derived.Deep.DeepCutAuto
import Derived.Deep.RegionHeld3
import Derived.Lib.QuietBelow
namespace Go.Proofs.YtapjiopnjfldhaaDoor
open Go.ChangeShapes Go.WideShapes Go.ChangeAt Go.RowKit
namespace Bw
open Bm Cm
theorem info_intF : (Tryd.prog.info? 3).map (fun i => (i.zero, i.size, i.bytes)) = some (some (.int .i64 0), 1, 8) := by kernel_rfl
/-- numbers as cells -/
def numC (l : List Int) : List Value := l.map fun n => .int .i64 n
theorem numC_append (a b : List Int) : numC (a ++ b) = numC a ++ numC b := by simp [numC]
theorem dwB (w : World) : Below w.heap.size w w.drew := ⟨rfl, rfl, rfl, Nat.le_refl _, fun _ _ => rfl⟩
theorem awB (w : World) (o : Obj) : Below w.heap.size w (w.alloc o) := (Below.refl _ _).alloc (Nat.le_refl _) _
theorem adB (w : World) (o : Obj) : Below w.heap.size w (w.alloc o).drew := bl2 (awB w o) (dwB _)
theorem keptA {w w' : World} {a b : Addr} {x y : Value} (h0 : w.cell? a = some x) (h1 : w.cell? b = some y) (hb : Below w.heap.size w w') : w'.cell? a = some x ∧ w'.cell? b = some y := ⟨cell_kept hb h0, cell_kept hb h1⟩
theorem farA {w : World} {b b' : Nat} {x y u v t : Value} (h0 : w.cell? ⟨b, 0, none⟩ = some x) (h1 : w.cell? ⟨b, 1, none⟩ = some y) (hne : b ≠ b') :
    (((w.setCell ⟨b', 0, none⟩ u).setCell ⟨b', 1, none⟩ v).setCell ⟨b', 2, none⟩ t).cell? ⟨b, 0, none⟩ = some x ∧ (((w.setCell ⟨b', 0, none⟩ u).setCell ⟨b', 1, none⟩ v).setCell ⟨b', 2, none⟩ t).cell? ⟨b, 1, none⟩ = some y := by
  have e : (((w.setCell ⟨b', 0, none⟩ u).setCell ⟨b', 1, none⟩ v).setCell ⟨b', 2, none⟩ t).heap[b]? = w.heap[b]? := by
    rw [Below.heap_setCell _ _ _ _ hne, Below.heap_setCell _ _ _ _ hne, Below.heap_setCell _ _ _ _ hne]
  unfold World.cell? at *
  rw [e]
  exact ⟨h0, h1⟩
/-- a block of three cells -/
def Row3 (w : World) (g : Nat) (a b c : Value) : Prop := w.heap[g]? = some (.cells #[a, b, c] 43 (0, 0))
theorem Row3.set {w : World} {g : Nat} {a b c : Value} (h : Row3 w g a b c) (x : Fl) : FlAt (((w.setCell ⟨g, 0, none⟩ (.int .i64 x.w)).setCell ⟨g, 1, none⟩ (.int .i64 x.m)).setCell ⟨g, 2, none⟩ (.bool x.lo)) g x := by
  have h1 := heap_setCell_same w g 0 _ _ (.int .i64 x.w) h
  have h2 := heap_setCell_same _ g 1 _ _ (.int .i64 x.m) h1
  have h3 := heap_setCell_same _ g 2 _ _ (.bool x.lo) h2
  exact ⟨cell_of_row _ _ 0 _ _ _ h3, cell_of_row _ _ 1 _ _ _ h3, cell_of_row _ _ 2 _ _ _ h3⟩
theorem Row3.at {w : World} {g : Nat} {a b c : Value} (h : Row3 w g a b c) : (w.cell? ⟨g, 0, none⟩ = some a ∧ w.cell? ⟨g, 1, none⟩ = some b ∧ w.cell? ⟨g, 2, none⟩ = some c) ∧ w.frozen? ⟨g, 0, none⟩ = false ∧ w.frozen? ⟨g, 1, none⟩ = false ∧ w.frozen? ⟨g, 2, none⟩ = false :=
  ⟨⟨cell_of_row _ _ 0 _ _ _ h, cell_of_row _ _ 1 _ _ _ h, cell_of_row _ _ 2 _ _ _ h⟩, frozen_of_row _ _ 0 _ _ h, frozen_of_row _ _ 1 _ _ h, frozen_of_row _ _ 2 _ _ h⟩
theorem set3B {B : Nat} {a w : World} (h : Below B a w) {g : Nat} (hg : B ≤ g) (u v t : Value) : Below B a (((w.setCell ⟨g, 0, none⟩ u).setCell ⟨g, 1, none⟩ v).setCell ⟨g, 2, none⟩ t) :=
  ((h.setCell (p := ⟨g, 0, none⟩) hg u).setCell (p := ⟨g, 1, none⟩) hg v).setCell (p := ⟨g, 2, none⟩) hg t
theorem holds_one {x : Fn} (h : okN x) {id : Nat} {lo : Bool} : holdsN x ⟨id, topN lo, lo⟩ = hitN x lo id := by
  unfold holdsN hitN
  simp only
  by_cases hl : x.lo = lo
  · have hm := h.m
    rw [hl] at hm
    have e : x.m &&& topN lo = x.m := by
      rw [topN_eq, Nat.and_two_pow_sub_one_eq_mod]
      exact Nat.mod_eq_of_lt (Nat.lt_of_le_of_lt hm (topN_lt lo))
    rw [e]
    simp
  · have hb : (x.lo == lo) = false := by simpa using hl
    rw [hb]
    rfl
set_option maxHeartbeats 4000000 in
set_option maxRecDepth 100000 in
theorem in_bad (a : Option Addr) (n c : Nat) (l : List Fl) (id : Int) (lo fa re : Bool) (sz : Int) (fa0 : Option Addr) (len cap : Nat) (w : World) (hF : IsFils w a n c l) (hL : LastsAt w) (hE : chkFl l ≠ 0) :
    Calls Tryd.prog 55 #[.slice a n c, frameV id lo fa re sz fa0 len cap] w fun e w' => e = .returned (.tuple #[.slice none 0 0, .int .i64 (chkFl l)]) ∧ Below w.heap.size w w' := by
  have hb := below_box w id lo fa re sz fa0 len cap
  have HC := Hid.mk (fcheck_any a n c l _ (hF.kept hb) (hL.kept hb))
  have HB := Hid.mk hb
  have he : (chkFl l != 0) = true := by simpa using hE
  clear hF hL hE hb
  generalize chkFl l = e at *
  unfold frameC at HB HC
  unfold frameV
  go_enter Tryd.func55, Tryd.ntmps55
  go_wp2_with fail
  refine HC.out.mono ?_
  rintro e w1 ⟨rfl, hb1⟩
  have HB1 := Hid.mk (bl2 HB.out hb1)
  clear hb1
  go_wp2_with fail
  go_ret2
  exact ⟨rfl, HB1.out⟩
set_option maxHeartbeats 4000000 in
set_option maxRecDepth 100000 in
theorem in_frame (a : Option Addr) (n c : Nat) (l : List Fl) (id : Int) (lo fa re : Bool) (sz : Int) (fa0 : Option Addr) (len cap : Nat) (w : World) (hF : IsFils w a n c l) (hL : LastsAt w) (hS : SizesAt w) (hlen : len ≤ maxLen) (hE : chkFl l = 0) (hG : frEn id lo fa re sz len ≠ 0) :
    Calls Tryd.prog 55 #[.slice a n c, frameV id lo fa re sz fa0 len cap] w fun e w' => e = .returned (.tuple #[.slice none 0 0, .int .i64 (frEn id lo fa re sz len)]) ∧ Below w.heap.size w w' := by
  have hb := below_box w id lo fa re sz fa0 len cap
  have hC := fcheck_any a n c l _ (hF.kept hb) (hL.kept hb)
  rw [hE] at hC
  have HC := Hid.mk hC
  have HB := Hid.mk hb
  have HFR := Hid.mk (FrAt.box w id lo fa re sz fa0 len cap)
  have HK := Hid.mk (fun W (h : Below w.heap.size w W) => frCheck_any id lo fa re sz fa0 len cap W (hS.kept h) hlen)
  have he : (frEn id lo fa re sz len != 0) = true := by simpa using hG
  clear hF hL hE hb hC hS hlen hG
  generalize frEn id lo fa re sz len = ee at *
  unfold frameC at HB HC HFR
  unfold frameV at HK ⊢
  go_enter Tryd.func55, Tryd.ntmps55
  go_wp2_with fail
  refine HC.out.mono ?_
  rintro e w1 ⟨rfl, hb1⟩
  have HB1 := Hid.mk (bl2 HB.out hb1)
  obtain ⟨k0, k1, k2, k3, k4, k5⟩ := HFR.out.kept hb1
  clear hb1
  go_wp2_with fail
  refine (HK.out _ HB1.out).mono ?_
  rintro e w2 ⟨rfl, hb2⟩
  have HB2 := Hid.mk (bl2 HB1.out hb2)
  clear hb2
  go_wp2_with fail
  go_ret2
  exact ⟨rfl, HB2.out⟩
set_option maxHeartbeats 8000000 in
set_option maxRecDepth 100000 in
theorem in_ok (a : Option Addr) (n c : Nat) (l : List Fn) (id : Nat) (lo fa re : Bool) (sz : Int) (fa0 : Option Addr) (len cap : Nat) (w : World) (hF : IsFils w a n c (l.map Fn.f)) (hL : LastsAt w) (hS : SizesAt w) (hlen : len ≤ maxLen) (hok : ∀ x ∈ l, okN x) (hn : n ≤ 16) (hG : frEn id lo fa re sz len = 0) (hid : id ≤ topN lo) :
    Calls Tryd.prog 55 #[.slice a n c, frameV id lo fa re sz fa0 len cap] w fun e w' => ∃ v, e = .returned (.tuple #[v, .int .i64 0]) ∧
      w'.ownsRow w.heap.size 3 1 v (inN l lo id).length (numC (inN l lo id)) ∧ Below w.heap.size w w' := by
  obtain ⟨i0, hi, hz0, hz1, hz2⟩ := info_parts info_intF
  have hln : l.length = n := by have := hF.len; simpa using this
  have hb := below_box w id lo fa re sz fa0 len cap
  have hC := fcheck_any a n c _ _ (hF.kept hb) (hL.kept hb)
  rw [chk_ok hok (by omega)] at hC
  have HC := Hid.mk hC
  have HB := Hid.mk hb
  have HFR := Hid.mk (FrAt.box w id lo fa re sz fa0 len cap)
  have hK := fun W (h : Below w.heap.size w W) => frCheck_any id lo fa re sz fa0 len cap W (hS.kept h) hlen
  rw [hG] at hK
  have HK := Hid.mk hK
  have HF := Hid.mk hF
  have HL := Hid.mk hL
  have HOK := Hid.mk hok
  have HLN := Hid.mk hln
  have HONE : Hid (okN ⟨id, topN lo, lo⟩) := Hid.mk ⟨hid, Nat.le_refl _⟩
  clear hF hL hS hlen hok hG hid hK hC hb hln
  unfold frameC at HB HC HFR
  unfold frameV at HK ⊢
  go_enter Tryd.func55, Tryd.ntmps55
  go_wp2_with fail
  refine HC.out.mono ?_
  rintro e w1 ⟨rfl, hb1⟩
  have HB1 := Hid.mk (bl2 HB.out hb1)
  have HFR1 := Hid.mk (HFR.out.kept hb1)
  obtain ⟨k0, k1, k2, k3, k4, k5⟩ := HFR1.out
  clear hb1 HFR HB HC
  go_wp2_with fail
  refine (HK.out _ HB1.out).mono ?_
  rintro e w2 ⟨rfl, hb2⟩
  have HB2 := Hid.mk (bl2 HB1.out hb2)
  obtain ⟨j0, j1, _, _, _, _⟩ := HFR1.out.kept hb2
  have hgl : w.heap.size < w2.heap.size := block_lt_of_cell j0
  have HL2 := Hid.mk (HL.out.kept HB2.out)
  have HF2 := Hid.mk (HF.out.kept HB2.out)
  clear hb2 HFR1 HB1 HK k0 k1 k2 k3 k4 k5 HL HF
  have HLa : Hid (∀ W, Below w2.heap.size w2 W → Calls Tryd.prog 79 #[.bool lo] W fun e w' => e = .returned (.int .i64 (topN lo)) ∧ w' = W) := Hid.mk (fun W h => last_any lo W (HL2.out.kept h))
  obtain ⟨t, ht⟩ : ∃ t, t = topN lo := ⟨_, rfl⟩
  rw [← ht] at HLa HONE
  have HT := Hid.mk ht
  clear ht
  go_wp2_with fail
  go_cut [8] (fun s8 wx => ∃ g8, s8 = .pointer (some ⟨g8, 0, none⟩) ∧ Hid (FlAt wx g8 ⟨(id : Int), (t : Int), lo⟩) ∧ Hid (Below w2.heap.size w2 wx))
  case first =>
    have HD1 := Hid.mk (dwB w2)
    have HD2 := Hid.mk (adB w2 (.cells #[.int .i64 0, .int .i64 0, .bool false] 43))
    have HZ2 : Hid (Row3 (w2.alloc (.cells #[.int .i64 0, .int .i64 0, .bool false] 43)).drew w2.heap.size (.int .i64 0) (.int .i64 0) (.bool false)) := Hid.mk (heap_alloc_new w2 _)
    have n0 := World.new_ne w2 _ j0
    have n1 := World.new_ne w2 _ j1
    go_region_held3 (fun w' => w'.cell? ⟨w.heap.size, 0, none⟩ = some (.int .i64 id) ∧ w'.cell? ⟨w.heap.size, 1, none⟩ = some (.bool lo)) (with_reducible first | exact ⟨v0, v1⟩ | exact farA v0 v1 (by omega) | exact keptA v0 v1 (awB _ _) | exact keptA j0 j1 (dwB _) | exact keptA j0 j1 (adB _ _)) ((go_at_call 79; first
      | (with_reducible refine (HLa.out _ HD1.out).mono ?_; rintro e w3 ⟨rfl, hw3⟩; have HB3 : Hid (Below w2.heap.size w2 w3) := Hid.mk (by rw [hw3]; exact HD1.out); have v0 := cell_kept HB3.out j0; have v1 := cell_kept HB3.out j1; clear hw3)
      | (with_reducible refine (HLa.out _ HD2.out).mono ?_; rintro e w3 ⟨rfl, hw3⟩; have HB3 : Hid (Below w2.heap.size w2 w3) := Hid.mk (by rw [hw3]; exact HD2.out); have HZ3 : Hid (Row3 w3 w2.heap.size (.int .i64 0) (.int .i64 0) (.bool false)) := Hid.mk (by rw [hw3]; exact HZ2.out); obtain ⟨⟨b0, b1, b2⟩, f0, f1, f2⟩ := HZ3.out.at; have v0 := cell_kept HB3.out j0; have v1 := cell_kept HB3.out j1; clear hw3)))
    · go_wp2_with fail
      go_meet
      exact ⟨_, rfl, Hid.mk (FlAt.box w3 ⟨(id : Int), (t : Int), lo⟩), Hid.mk (bl2 HB3.out (box1_below w3 ⟨(id : Int), (t : Int), lo⟩))⟩
    all_goals focus
      go_wp2_with fail
      go_meet
      exact ⟨_, rfl, Hid.mk (HZ3.out.set ⟨(id : Int), (t : Int), lo⟩), Hid.mk (set3B HB3.out (Nat.le_refl _) _ _ _)⟩
  case rest =>
    obtain ⟨g8, rfl, HX8, HBc⟩ := hcut
    have HFc := Hid.mk (HF2.out.kept HBc.out)
    have HBw := Hid.mk (bl2 HB2.out HBc.out)
    clear HB2 HF2 HL2 HBc j0 j1 hgl HLa
    go_wp2_with fail
    go_loopw [9, 32] (fun v i wr => ∃ k : Nat, k ≤ n ∧ i = .int .i64 k ∧ Hid (wr.ownsRow wc.heap.size 3 1 v (inFK l lo id k).length (numC (inFK l lo id k))) ∧ Hid (Below wc.heap.size wc wr)) (fun _ i _ => n - (intOf i).toNat)
    case atStart => exact ⟨0, Nat.zero_le _, rfl, Hid.mk (World.ownsRow_nil _ _ _ _), Hid.mk (Below.refl _ _)⟩
    case round =>
      obtain ⟨k, hk, rfl, HO, HB⟩ := hrel
      by_cases hlt : k < n
      · have hlt' : (k : Int) < (n : Int) := by omega
        obtain ⟨X, rfl⟩ := fils_some HFc.out hlt
        obtain ⟨c0, c1, c2⟩ := fils_at (HFc.out.kept HB.out) hlt
        have HOX := Hid.mk (getD_ok HOK.out k)
        have HM : Hid (inFK l lo id (k + 1) = inFK l lo id k ++ (if hitN (l.getD k ⟨0, 0, false⟩) lo id = true then [(k : Int)] else [])) := Hid.mk rfl
        have hlk := inFK_len l lo id k
        obtain ⟨x, hx⟩ : ∃ x, x = l.getD k ⟨0, 0, false⟩ := ⟨_, rfl⟩
        rw [map_getD l k (by rw [HLN.out]; exact hlt), ← hx] at c0 c1 c2
        rw [← hx] at HM HOX
        have hb4 := box1_below wr x.f
        have HB4 := Hid.mk (bl2 HB.out hb4)
        have HO4 := Hid.mk (ownsRow_below HO.out hb4)
        obtain ⟨p0, p1, p2⟩ := (HX8.out.kept HB.out).kept hb4
        have hH := fun W => holds_any x ⟨id, t, lo⟩ W HOX.out HONE.out
        rw [show holdsN x ⟨id, t, lo⟩ = hitN x lo id by rw [HT.out]; exact holds_one HOX.out] at hH
        have HH := Hid.mk hH
        unfold box1 at HB4 HO4 p0 p1 p2
        unfold Fn.f at c0 c1 c2 HB4 HO4 HH p0 p1 p2
        unfold Fl.val at HH
        simp only at c0 c1 c2 HB4 HO4 HH p0 p1 p2
        clear hx hb4 hH HOX
        cases hit : hitN x lo id
        · rw [hit] at HH HM
          have hm := HM.out
          simp only [Bool.false_eq_true, if_false, List.append_nil] at hm
          have HM1 := Hid.mk hm
          clear hm HM hit
          go_wp2_with fail
          refine (HH.out _).mono ?_
          rintro e w5 ⟨rfl, hb5⟩
          have HB5 := Hid.mk (bl2 HB4.out hb5)
          have HO5 := Hid.mk (ownsRow_below HO4.out hb5)
          clear hb5
          go_wp2_with fail
          go_roundw
          case rel => exact ⟨k + 1, by omega, by go_num, by rw [HM1.out]; exact HO5, HB5⟩
          case measure => simp [intOf]; omega
        · rw [hit] at HH HM
          have hm := HM.out
          simp only [if_true] at hm
          have HM1 := Hid.mk hm
          have hlk' : (inFK l lo id k).length ≤ 16 := by omega
          clear hm HM hit
          go_wp2_with fail
          refine (HH.out _).mono ?_
          rintro e w5 ⟨rfl, hb5⟩
          have HB5 := Hid.mk (bl2 HB4.out hb5)
          have HO5 := Hid.mk (ownsRow_below HO4.out hb5)
          clear hb5
          go_wp2_with (at_builtin; refine wpList_append_own _ rfl (.tmp 40) (.tmp 42) 23 rfl wc.heap.size 3 i0 (.int .i64 0) 1 8 Tryd.underlying23 hi hz0 hz1 hz2 rfl (by decide) _ _ _ rfl (HO5.out.alloc _) ⟨w5.heap.size, 0, none⟩ 1 1 [Value.int .i64 k] rfl rfl (by intro q u hq; match q, hq with | 0, hq => (simp at hq; subst hq; simp [Addr.add])) (by intro u hu; simp at hu; subst hu; rfl) (by unfold maxLen; omega) (by omega) (by have := HB5.out.size; simp; omega) ?_; intro v6 w6 hown6 hgrow6 _)
          have hB6 : Below wc.heap.size wc w6 := Below.grown (HB5.out.alloc HB5.out.size _) hgrow6 (by have := HB5.out.size; simp; omega) (fun q hq => (HO5.out.lt q hq).1)
          have hown7 := hown6
          rw [show numC (inFK l lo id k) ++ [Value.int .i64 k] = numC (inFK l lo id (k + 1)) by rw [HM1.out, numC_append]; rfl, show (inFK l lo id k).length + 1 = (inFK l lo id (k + 1)).length by rw [HM1.out]; simp] at hown7
          have HO7 := Hid.mk hown7
          have HB7 := Hid.mk hB6
          clear hown6 hown7 hB6 hgrow6
          go_roundw
          case rel => exact ⟨k + 1, by omega, by go_num, HO7, HB7⟩
          case measure => simp [intOf]; omega
      · have e : k = n := by omega
        subst e
        have hO := HO.out
        rw [show inFK l lo id k = inN l lo id by unfold inN; rw [HLN.out]] at hO
        have HO1 := Hid.mk hO
        have HBB := Hid.mk (bl2 HBw.out HB.out)
        have HBs := Hid.mk HBw.out.size
        clear hO
        go_wp2_with fail
        go_ret2
        exact ⟨_, rfl, owns_base HO1.out HBs.out, HBB.out⟩
end Bw
end Go.Proofs.YtapjiopnjfldhaaDoor
