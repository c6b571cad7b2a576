/- What the document's own OwnFrame answers. -/
import Derived.Test.YthdffdobkampaaaDoorFrameOk
import Derived.Test.YthdffdobkampaaaDoorFrCheck
import Derived.Test.YthdffdobkampaaaDoorTchKit
import Derived.Lib.QuietBelow
namespace Go.Proofs.YthdffdobkampaaaDoor
open Go.ChangeShapes Go.WideShapes Go.ChangeAt Go.RowKit
namespace Bw
open Bm Cm Go.Sort

theorem frame_iO : (Tryd.prog.info? 25).map (·.size) = some 6 := by kernel_rfl
theorem isBytes_tchO {gs : List Nat} {w w' : World} {a : Option Addr} {len cap : Nat} {l : List UInt8} (hb : IsBytes w a len cap l) (ht : Tch gs w w') (hg : ∀ x, a = some x → x.block ∉ gs) : IsBytes w' a len cap l := by
  refine ⟨hb.1, hb.2.1, hb.2.2.1, hb.2.2.2.1, fun x hx i hi => ?_⟩
  have hv := hb.2.2.2.2 x hx i hi
  have hlt := block_lt_of_cell hv
  have hblk : (x.add i).block = x.block := by unfold Addr.add; split <;> rfl
  unfold World.cell? at hv ⊢
  rw [ht.block _ hlt (by rw [hblk]; exact hg x hx)]
  exact hv
theorem isBytes_ownO {w : World} {base : Nat} {v : Value} {n : Nat} {l : List UInt8} (h : w.ownsRow base 5 1 v n (cellsOf l)) :
    ∃ a cap, v = .slice a n cap ∧ IsBytes w a n cap l ∧ ∀ x, a = some x → base ≤ x.block := by
  have h0 := h
  obtain ⟨hl, h2⟩ := h
  have hn : l.length = n := by simpa [cellsOf] using hl
  rcases h2 with ⟨rfl, h1⟩ | ⟨g, cap, cur, rfl, hg, hh, hc, hm, hsz, htk⟩
  · subst h1; exact ⟨none, 0, rfl, ⟨hn, Nat.le_refl _, Nat.zero_le _, (fun _ => rfl), (fun x hx => by cases hx)⟩, fun x hx => by cases hx⟩
  · refine ⟨some ⟨g, 0, none⟩, cap, rfl, ⟨hn, hc, hm, (fun h => by cases h), fun x hx i hi => ?_⟩, fun x hx => by cases hx; exact hg⟩
    cases hx
    exact h0.cells rfl i _ (by simp [cellsOf, hn, hi])
def zC : Obj := .cells #[.int .i64 0, .bool false, .bool false, .bool false, .int .i64 0, .slice none 0 0] 25
/-- behind the append -/
theorem own_end (id : Int) (lo fa re : Bool) (sz : Int) (a : Option Addr) (len cap : Nat) (ao : Option Addr) (co : Nat) (dt : List UInt8) (w w3 : World)
    (hB : Below w.heap.size w w3) (_hz1 : w3.heap[w.heap.size]? = some (.cells #[.int .i64 id, .bool lo, .bool fa, .bool re, .int .i64 sz, .slice a len cap] 25 (0, 0)))
    (hz2 : w3.heap[w.heap.size + 1]? = some (.cells #[.int .i64 0, .bool false, .bool false, .bool false, .int .i64 0, .slice none 0 0] 25 (0, 0)))
    (hby : IsBytes w3 ao len co dt) (hblk : ∀ x, ao = some x → w.heap.size + 2 ≤ x.block) :
    let wF := (((((((w3.setCell ⟨w.heap.size, 5, none⟩ (.slice ao len co)).setCell ⟨(w.heap.size + 1), 0, none⟩ (.int .i64 id)).setCell ⟨(w.heap.size + 1), 1, none⟩ (.bool lo)).setCell ⟨(w.heap.size + 1), 2, none⟩ (.bool fa)).setCell ⟨(w.heap.size + 1), 3, none⟩ (.bool re)).setCell ⟨(w.heap.size + 1), 4, none⟩ (.int .i64 sz)).setCell ⟨(w.heap.size + 1), 5, none⟩ (.slice ao len co))
    wF.heap[w.heap.size + 1]? = some (.cells #[.int .i64 id, .bool lo, .bool fa, .bool re, .int .i64 sz, .slice ao len co] 25 (0, 0)) ∧ IsBytes wF ao len co dt ∧ Below w.heap.size w wF := by
  intro wF
  have hT1 : Tch [w.heap.size, w.heap.size + 1] w3 wF := ((((((((Tch.refl [w.heap.size, w.heap.size + 1] w3).setK (by simp) _ _).setK (by simp) _ _).setK (by simp) _ _).setK (by simp) _ _).setK (by simp) _ _).setK (by simp) _ _).setK (by simp) _ _)
  have hz2s : (w3.setCell ⟨w.heap.size, 5, none⟩ (.slice ao len co)).heap[w.heap.size + 1]? = some (.cells #[.int .i64 0, .bool false, .bool false, .bool false, .int .i64 0, .slice none 0 0] 25 (0, 0)) := by
    rw [Below.heap_setCell _ _ _ _ (by simp)]; exact hz2
  have kc0 := cell_of_row (w3.setCell ⟨w.heap.size, 5, none⟩ (.slice ao len co)) (w.heap.size + 1) 0 _ _ _ hz2s
  have kz0 := frozen_of_row (w3.setCell ⟨w.heap.size, 5, none⟩ (.slice ao len co)) (w.heap.size + 1) 0 _ _ hz2s
  have ks0 := heap_setCell_same (w3.setCell ⟨w.heap.size, 5, none⟩ (.slice ao len co)) (w.heap.size + 1) 0 _ _ (.int .i64 id) hz2s
  simp only [List.setIfInBounds_toArray, List.set_cons_zero] at ks0
  simp at kc0
  have kc1 := cell_of_row ((w3.setCell ⟨w.heap.size, 5, none⟩ (.slice ao len co)).setCell ⟨(w.heap.size + 1), 0, none⟩ (.int .i64 id)) (w.heap.size + 1) 1 _ _ _ ks0
  have kz1 := frozen_of_row ((w3.setCell ⟨w.heap.size, 5, none⟩ (.slice ao len co)).setCell ⟨(w.heap.size + 1), 0, none⟩ (.int .i64 id)) (w.heap.size + 1) 1 _ _ ks0
  have ks1 := heap_setCell_same ((w3.setCell ⟨w.heap.size, 5, none⟩ (.slice ao len co)).setCell ⟨(w.heap.size + 1), 0, none⟩ (.int .i64 id)) (w.heap.size + 1) 1 _ _ (.bool lo) ks0
  simp only [List.setIfInBounds_toArray, List.set_cons_zero, List.set_cons_succ] at ks1
  simp at kc1
  have kc2 := cell_of_row (((w3.setCell ⟨w.heap.size, 5, none⟩ (.slice ao len co)).setCell ⟨(w.heap.size + 1), 0, none⟩ (.int .i64 id)).setCell ⟨(w.heap.size + 1), 1, none⟩ (.bool lo)) (w.heap.size + 1) 2 _ _ _ ks1
  have kz2 := frozen_of_row (((w3.setCell ⟨w.heap.size, 5, none⟩ (.slice ao len co)).setCell ⟨(w.heap.size + 1), 0, none⟩ (.int .i64 id)).setCell ⟨(w.heap.size + 1), 1, none⟩ (.bool lo)) (w.heap.size + 1) 2 _ _ ks1
  have ks2 := heap_setCell_same (((w3.setCell ⟨w.heap.size, 5, none⟩ (.slice ao len co)).setCell ⟨(w.heap.size + 1), 0, none⟩ (.int .i64 id)).setCell ⟨(w.heap.size + 1), 1, none⟩ (.bool lo)) (w.heap.size + 1) 2 _ _ (.bool fa) ks1
  simp only [List.setIfInBounds_toArray, List.set_cons_zero, List.set_cons_succ] at ks2
  simp at kc2
  have kc3 := cell_of_row ((((w3.setCell ⟨w.heap.size, 5, none⟩ (.slice ao len co)).setCell ⟨(w.heap.size + 1), 0, none⟩ (.int .i64 id)).setCell ⟨(w.heap.size + 1), 1, none⟩ (.bool lo)).setCell ⟨(w.heap.size + 1), 2, none⟩ (.bool fa)) (w.heap.size + 1) 3 _ _ _ ks2
  have kz3 := frozen_of_row ((((w3.setCell ⟨w.heap.size, 5, none⟩ (.slice ao len co)).setCell ⟨(w.heap.size + 1), 0, none⟩ (.int .i64 id)).setCell ⟨(w.heap.size + 1), 1, none⟩ (.bool lo)).setCell ⟨(w.heap.size + 1), 2, none⟩ (.bool fa)) (w.heap.size + 1) 3 _ _ ks2
  have ks3 := heap_setCell_same ((((w3.setCell ⟨w.heap.size, 5, none⟩ (.slice ao len co)).setCell ⟨(w.heap.size + 1), 0, none⟩ (.int .i64 id)).setCell ⟨(w.heap.size + 1), 1, none⟩ (.bool lo)).setCell ⟨(w.heap.size + 1), 2, none⟩ (.bool fa)) (w.heap.size + 1) 3 _ _ (.bool re) ks2
  simp only [List.setIfInBounds_toArray, List.set_cons_zero, List.set_cons_succ] at ks3
  simp at kc3
  have kc4 := cell_of_row (((((w3.setCell ⟨w.heap.size, 5, none⟩ (.slice ao len co)).setCell ⟨(w.heap.size + 1), 0, none⟩ (.int .i64 id)).setCell ⟨(w.heap.size + 1), 1, none⟩ (.bool lo)).setCell ⟨(w.heap.size + 1), 2, none⟩ (.bool fa)).setCell ⟨(w.heap.size + 1), 3, none⟩ (.bool re)) (w.heap.size + 1) 4 _ _ _ ks3
  have kz4 := frozen_of_row (((((w3.setCell ⟨w.heap.size, 5, none⟩ (.slice ao len co)).setCell ⟨(w.heap.size + 1), 0, none⟩ (.int .i64 id)).setCell ⟨(w.heap.size + 1), 1, none⟩ (.bool lo)).setCell ⟨(w.heap.size + 1), 2, none⟩ (.bool fa)).setCell ⟨(w.heap.size + 1), 3, none⟩ (.bool re)) (w.heap.size + 1) 4 _ _ ks3
  have ks4 := heap_setCell_same (((((w3.setCell ⟨w.heap.size, 5, none⟩ (.slice ao len co)).setCell ⟨(w.heap.size + 1), 0, none⟩ (.int .i64 id)).setCell ⟨(w.heap.size + 1), 1, none⟩ (.bool lo)).setCell ⟨(w.heap.size + 1), 2, none⟩ (.bool fa)).setCell ⟨(w.heap.size + 1), 3, none⟩ (.bool re)) (w.heap.size + 1) 4 _ _ (.int .i64 sz) ks3
  simp only [List.setIfInBounds_toArray, List.set_cons_zero, List.set_cons_succ] at ks4
  simp at kc4
  have kc5 := cell_of_row ((((((w3.setCell ⟨w.heap.size, 5, none⟩ (.slice ao len co)).setCell ⟨(w.heap.size + 1), 0, none⟩ (.int .i64 id)).setCell ⟨(w.heap.size + 1), 1, none⟩ (.bool lo)).setCell ⟨(w.heap.size + 1), 2, none⟩ (.bool fa)).setCell ⟨(w.heap.size + 1), 3, none⟩ (.bool re)).setCell ⟨(w.heap.size + 1), 4, none⟩ (.int .i64 sz)) (w.heap.size + 1) 5 _ _ _ ks4
  have kz5 := frozen_of_row ((((((w3.setCell ⟨w.heap.size, 5, none⟩ (.slice ao len co)).setCell ⟨(w.heap.size + 1), 0, none⟩ (.int .i64 id)).setCell ⟨(w.heap.size + 1), 1, none⟩ (.bool lo)).setCell ⟨(w.heap.size + 1), 2, none⟩ (.bool fa)).setCell ⟨(w.heap.size + 1), 3, none⟩ (.bool re)).setCell ⟨(w.heap.size + 1), 4, none⟩ (.int .i64 sz)) (w.heap.size + 1) 5 _ _ ks4
  have ks5 := heap_setCell_same ((((((w3.setCell ⟨w.heap.size, 5, none⟩ (.slice ao len co)).setCell ⟨(w.heap.size + 1), 0, none⟩ (.int .i64 id)).setCell ⟨(w.heap.size + 1), 1, none⟩ (.bool lo)).setCell ⟨(w.heap.size + 1), 2, none⟩ (.bool fa)).setCell ⟨(w.heap.size + 1), 3, none⟩ (.bool re)).setCell ⟨(w.heap.size + 1), 4, none⟩ (.int .i64 sz)) (w.heap.size + 1) 5 _ _ (.slice ao len co) ks4
  simp only [List.setIfInBounds_toArray, List.set_cons_zero, List.set_cons_succ] at ks5
  simp at kc5
  exact ⟨ks5, isBytes_tchO hby hT1 (fun x hx => by have := hblk x hx; simp; omega), Tch.below hB hT1 (by simp) (Nat.le_refl _)⟩

set_option maxHeartbeats 8000000 in
set_option maxRecDepth 100000 in
theorem own_any (f : Fr) (a : Option Addr) (len cap : Nat) (w : World) (hby : IsBytes w a len cap f.dt) (hlen : len ≤ 140737488351232) :
    Calls Tryd.prog 27 #[frameV f.id f.lo f.fa f.re f.sz a len cap] w fun e w' => ∃ a' c', e = .returned (frameV f.id f.lo f.fa f.re f.sz a' len c') ∧ IsBytes w' a' len c' f.dt ∧ Below w.heap.size w w' := by
  obtain ⟨i0, hi, hz0, hz1, hz2⟩ := info_parts info_u8
  obtain ⟨id, lo, fa, re, sz, dt⟩ := f
  simp only at hby ⊢
  have hB1 := below_box w id lo fa re sz a len cap
  have hA1 := heap_alloc_new w (frameC id lo fa re sz a len cap)
  have hB2 : Below (w.alloc (frameC id lo fa re sz a len cap)).heap.size (w.alloc (frameC id lo fa re sz a len cap)) ((w.alloc (frameC id lo fa re sz a len cap)).alloc zC) := (Below.refl _ _).alloc (Nat.le_refl _) _
  have hA2 := heap_alloc_new (w.alloc (frameC id lo fa re sz a len cap)) zC
  have hsz1 : (w.alloc (frameC id lo fa re sz a len cap)).heap.size = w.heap.size + 1 := by simp
  have hsz2 : ((w.alloc (frameC id lo fa re sz a len cap)).alloc zC).heap.size = w.heap.size + 2 := by simp
  have hA1' := (hB2.block w.heap.size (by omega)).trans hA1
  rw [hsz1] at hA2
  have hB := bl2 hB1 hB2
  have hY := isBytes_below hby hB
  unfold frameC zC at hB hA1' hA2 hY hsz2
  unfold frameV
  have HY := Hid.mk hY
  have HB := Hid.mk hB
  have HA1 := Hid.mk hA1'
  have HA2 := Hid.mk hA2
  clear hB1 hA1 hB2 hA2 hsz1 hA1' hB hY hby
  go_enter Tryd.func27, Tryd.ntmps27
  cases a with
  | none =>
    have hl0 := HY.out.2.2.2.1 rfl
    subst hl0
    go_wp2_with fail
    have hd0 : dt = [] := List.eq_nil_of_length_eq_zero HY.out.1
    subst hd0
    have hrow := heap_alloc_new (w.alloc (.cells #[.int .i64 id, .bool lo, .bool fa, .bool re, .int .i64 sz, .slice none 0 0] 25)) (.cells #[.int .i64 id, .bool lo, .bool fa, .bool re, .int .i64 sz, .slice none 0 0] 25)
    have hs1 : (w.alloc (.cells #[.int .i64 id, .bool lo, .bool fa, .bool re, .int .i64 sz, .slice none 0 0] 25)).heap.size = w.heap.size + 1 := by simp
    rw [hs1] at hrow
    have hBe : Below w.heap.size w ((w.alloc (.cells #[.int .i64 id, .bool lo, .bool fa, .bool re, .int .i64 sz, .slice none 0 0] 25)).alloc (.cells #[.int .i64 id, .bool lo, .bool fa, .bool re, .int .i64 sz, .slice none 0 0] 25)) := bl2 ((Below.refl _ _).alloc (Nat.le_refl _) _) ((Below.refl _ _).alloc (Nat.le_refl _) _)
    refine bodyPost_ret (results_cell_row rfl _ _ (w.heap.size + 1) _ _ _ _ rfl hrow Tryd.underlying25 rfl frame_iO) rfl ?_
    exact ⟨none, 0, rfl, ⟨rfl, Nat.le_refl _, Nat.zero_le _, fun _ => rfl, fun x hx => by cases hx⟩, hBe⟩
  | some x =>
    have hcl : (cellsOf dt).length = len * 1 := by rw [cellsOf_length, HY.out.1, Nat.mul_one]
    have hce := HY.out.2.2.2.2 x rfl
    have hdl := HY.out.1
    go_wp2_with (at_builtin; refine wpList_append_own _ rfl (.const (.slice none 0 0)) (.tmp 4) 23 rfl (w.heap.size + 2) 5 i0 (.int .u8 0) 1 1 Tryd.underlying23 hi hz0 hz1 hz2 rfl (by decide) (.slice none 0 0) 0 [] rfl (World.ownsRow_nil _ _ _ _) x len cap (cellsOf dt) rfl hcl (by intro q u hq; have hq1 : q < dt.length := (by rcases Nat.lt_or_ge q dt.length with hh | hh; exact hh; rw [List.getElem?_eq_none (by rw [cellsOf_length]; exact hh)] at hq; cases hq); rw [hce q (by omega)]; simp [cellsOf, hq1] at hq; rw [← hq]; simp [List.getD, hq1]) (by intro u hu; simp [cellsOf] at hu; obtain ⟨c, -, rfl⟩ := hu; rfl) (by unfold maxLen; omega) (by omega) (by omega) ?_; intro v1 w3 hown1 hgrow1 _; have hown2 : w3.ownsRow (w.heap.size + 2) 5 1 v1 len (cellsOf dt) := (by simpa using hown1); have hb3 := Below.grown (Below.refl (w.heap.size + 2) _) hgrow1 (by simp) (fun q hq => by cases hq); obtain ⟨ao, co, rfl, hby3, hblk⟩ := isBytes_ownO hown2; have r1 := (hb3.block w.heap.size (by omega)).trans HA1.out; have r2 := (hb3.block (w.heap.size + 1) (by omega)).trans HA2.out; have hBw := HB.out.trans (hb3.mono (Nat.le_add_right _ _)); have c0 := cell_of_row w3 w.heap.size 0 _ _ _ r1; simp at c0; have c1 := cell_of_row w3 w.heap.size 1 _ _ _ r1; simp at c1; have c2 := cell_of_row w3 w.heap.size 2 _ _ _ r1; simp at c2; have c3 := cell_of_row w3 w.heap.size 3 _ _ _ r1; simp at c3; have c4 := cell_of_row w3 w.heap.size 4 _ _ _ r1; simp at c4; have c5 := cell_of_row w3 w.heap.size 5 _ _ _ r1; simp at c5; have z5 := frozen_of_row w3 w.heap.size 5 _ _ r1; have s5 := cell_of_row _ w.heap.size 5 _ _ _ (heap_setCell_same w3 w.heap.size 5 _ _ (.slice ao len co) r1); simp at s5; have b0 := cell_of_row w3 (w.heap.size + 1) 0 _ _ _ r2; simp at b0; have f0 := frozen_of_row w3 (w.heap.size + 1) 0 _ _ r2; have b1 := cell_of_row w3 (w.heap.size + 1) 1 _ _ _ r2; simp at b1; have f1 := frozen_of_row w3 (w.heap.size + 1) 1 _ _ r2; have b2 := cell_of_row w3 (w.heap.size + 1) 2 _ _ _ r2; simp at b2; have f2 := frozen_of_row w3 (w.heap.size + 1) 2 _ _ r2; have b3 := cell_of_row w3 (w.heap.size + 1) 3 _ _ _ r2; simp at b3; have f3 := frozen_of_row w3 (w.heap.size + 1) 3 _ _ r2; have b4 := cell_of_row w3 (w.heap.size + 1) 4 _ _ _ r2; simp at b4; have f4 := frozen_of_row w3 (w.heap.size + 1) 4 _ _ r2; have b5 := cell_of_row w3 (w.heap.size + 1) 5 _ _ _ r2; simp at b5; have f5 := frozen_of_row w3 (w.heap.size + 1) 5 _ _ r2; have HE := Hid.mk (own_end id lo fa re sz (some x) len cap ao co dt w w3 hBw r1 r2 hby3 hblk); clear hown1 hown2 hb3 hby3 hblk r1 r2 hBw hgrow1 hce hcl hdl)
    obtain ⟨e1, e2, e3⟩ := HE.out
    refine bodyPost_ret (results_cell_row rfl _ _ (w.heap.size + 1) _ _ _ _ rfl e1 Tryd.underlying25 rfl frame_iO) rfl ?_
    exact ⟨ao, co, rfl, e2, e3⟩
end Bw
end Go.Proofs.YthdffdobkampaaaDoor
