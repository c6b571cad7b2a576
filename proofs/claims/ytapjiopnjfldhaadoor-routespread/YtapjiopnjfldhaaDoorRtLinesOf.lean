/- What route.linesOf answers: its loop, and what it asks of slices.SortFunc. -/
import Derived.Test.YtapjiopnjfldhaaDoorA14
import Derived.Test.YtapjiopnjfldhaaDoorRtStep
import Derived.Test.YtapjiopnjfldhaaDoorA10
namespace Go.Proofs.YtapjiopnjfldhaaDoor
open Go.ChangeShapes Go.WideShapes Go.ChangeAt Go.RowKit
namespace Bw
open Bm
set_option linter.unusedVariables false
/-- places in a row, to be read -/
structure IsPls (w : World) (a : Option Addr) (n : Nat) (l : List Pl) : Prop where
  len : l.length = n
  nul : a = none → n = 0
  cell : ∀ x, a = some x → ∀ i, i < n → w.cell? (x.add (i * 2)) = some (.int .i64 (l.getD i (0, 0)).1) ∧ w.cell? ⟨(x.add (i * 2)).block, (x.add (i * 2)).off + 1, none⟩ = some (.int .i64 (l.getD i (0, 0)).2)
theorem IsPls.kept {w w' : World} {a : Option Addr} {n : Nat} {l : List Pl} (h : IsPls w a n l) (hb : Below w.heap.size w w') : IsPls w' a n l :=
  ⟨h.len, h.nul, fun x hx i hi => ⟨cell_kept hb (h.cell x hx i hi).1, cell_kept hb (h.cell x hx i hi).2⟩⟩
theorem IsPls.some {w : World} {a : Option Addr} {n : Nat} {l : List Pl} (h : IsPls w a n l) {i : Nat} (hi : i < n) : ∃ x, a = some x := by
  cases a with
  | none => exact absurd (h.nul rfl) (by omega)
  | some x => exact ⟨x, rfl⟩
/-- a line as it is told -/
def plK (lo fa re : Bool) (sz : Int) (len : Nat) (p : Pl) : Int × Int × Int × Bool × Bool × Bool × Int × Nat := (0, p.1, p.2, lo, fa, re, sz, len)
theorem plK_take {lo fa re : Bool} {sz : Int} {len : Nat} {l : List Pl} {k : Nat} (hk : k < l.length) : (l.take (k + 1)).map (plK lo fa re sz len) = (l.take k).map (plK lo fa re sz len) ++ [plK lo fa re sz len (l.getD k (0, 0))] := by
  rw [List.take_succ_eq_append_getElem hk, List.map_append]
  simp [List.getD, hk]
/-- what is asked of slices.SortFunc at lines of one's own -/
def SortLn : Prop := ∀ (v : Value) (P : List LnR) (dt : List UInt8) (base : Nat) (w : World), OwnLns w base v P dt → P.length ≤ 100000 →
  Calls Tryd.prog 64 #[v, .func (.func 65) #[] #[]] w fun e w' => e = .returned (.tuple #[]) ∧ ∃ a c P', v = .slice a P.length c ∧ IsLns w' a P.length c P' dt ∧ P'.Perm P ∧ P'.Pairwise (fun u v => ¬ (v.bs < u.bs ∨ (v.bs = u.bs ∧ v.id < u.id))) ∧ Below base w w'
set_option maxHeartbeats 16000000 in
set_option maxRecDepth 100000 in
theorem linesOf_any (hST : SortLn) (x0 : Option Addr) (n c0 : Nat) (pl : List Pl) (id : Int) (lo fa re : Bool) (sz : Int) (a : Option Addr) (len cap : Nat) (dt : List UInt8) (w : World) (hP : IsPls w x0 n pl) (hn : n ≤ 100000) (hD : IsBytes w a len cap dt) (hlen : len ≤ 1000) :
    Calls Tryd.prog 48 #[.slice x0 n c0, frameV id lo fa re sz a len cap] w fun e w' => ∃ a' c' P', e = .returned (.slice a' n c') ∧ IsLns w' a' n c' P' dt ∧ (P'.map LnR.k).Perm (pl.map (plK lo fa re sz len)) ∧ P'.Pairwise (fun u v => ¬ (v.bs < u.bs ∨ (v.bs = u.bs ∧ v.id < u.id))) ∧ Below w.heap.size w w' := by
  obtain ⟨i0, hi, hz0, hz1, hz2⟩ := info_parts info_ln
  have hb1 := awB w (frameC id lo fa re sz a len cap)
  have HF := Hid.mk (Row6.new w id lo fa re sz a len cap)
  have HB := Hid.mk hb1
  have HPP := Hid.mk hP
  have HDD := Hid.mk hD
  have HLE := Hid.mk hlen
  have HSO := Hid.mk hST
  have HS1 : Hid (w.heap.size + 1 ≤ (w.alloc (frameC id lo fa re sz a len cap)).heap.size) := Hid.mk (by simp)
  have hn63 : (n : Int) ≤ 100000 := by omega
  unfold frameC at HB HF HS1
  unfold frameV
  clear hb1 hP hD hlen hST
  go_enter Tryd.func48, Tryd.ntmps48
  go_wp2_with fail
  generalize w.alloc (.cells #[.int .i64 id, .bool lo, .bool fa, .bool re, .int .i64 sz, .slice a len cap] 28) = W0 at *
  go_loopw [5, 10] (fun vq i wr => ∃ (v : Value) (k : Nat) (P : List LnR), v = vq ∧ k ≤ n ∧ i = .int .i64 k ∧ Hid (∃ j, Row6 wr w.heap.size j lo fa re sz a len cap) ∧ Hid (OwnLns wr (w.heap.size + 1) v P dt) ∧ Hid (P.map LnR.k = (pl.take k).map (plK lo fa re sz len)) ∧ Hid (w.heap.size + 1 ≤ wr.heap.size) ∧ Hid (Below w.heap.size w wr)) (fun _ i _ => n - (intOf i).toNat)
  case atStart => exact ⟨_, 0, [], rfl, Nat.zero_le _, rfl, Hid.mk ⟨_, HF.out⟩, Hid.mk (OwnLns.nil _ _ _), Hid.mk rfl, HS1, HB⟩
  case round =>
    clear HF HB HS1
    obtain ⟨v, k, P, rfl, hk, rfl, HF, HO, HM, HS, HB⟩ := hrel
    rename World => wo
    by_cases hlt : k < n
    · have hlt' : (k : Int) < (n : Int) := by omega
      obtain ⟨x, rfl⟩ := HPP.out.some hlt
      obtain ⟨c0, c1⟩ := (HPP.out.kept HB.out).cell x rfl k hlt
      obtain ⟨p, hp⟩ : ∃ p, p = pl.getD k (0, 0) := ⟨_, rfl⟩
      have hKT := plK_take (lo := lo) (fa := fa) (re := re) (sz := sz) (len := len) (l := pl) (k := k) (by rw [HPP.out.len]; exact hlt)
      rw [← hp] at c0 c1 hKT
      have HKT := Hid.mk hKT
      obtain ⟨pb, pi⟩ := p
      simp only at c0 c1
      have hb1 := awB wo (.cells #[.int .i64 pb, .int .i64 pi] 106)
      obtain ⟨j, hj⟩ := HF.out
      have hj1 := hj.kept hb1
      have f0 := hj1.fr.c0
      have f1 := hj1.frozen 0
      have hF2 := hj1.set0 pi
      have hsz := HS.out
      have d0 : ((wo.alloc (.cells #[.int .i64 pb, .int .i64 pi] 106)).setCell ⟨w.heap.size, 0, none⟩ (.int .i64 pi)).heap[wo.heap.size]? = some (.cells #[.int .i64 pb, .int .i64 pi] 106 (0, 0)) := (setH (by omega)).trans (heap_alloc_new wo _)
      have HO2 := Hid.mk ((HO.out.kept hb1).set (p := ⟨w.heap.size, 0, none⟩) (show w.heap.size < w.heap.size + 1 by omega) (.int .i64 pi))
      have HF2 := Hid.mk hF2
      have HB2 := Hid.mk ((bl2 HB.out hb1).setCell (p := ⟨w.heap.size, 0, none⟩) (Nat.le_refl _) (.int .i64 pi))
      have HS2 : Hid (w.heap.size + 1 ≤ ((wo.alloc (.cells #[.int .i64 pb, .int .i64 pi] 106)).setCell ⟨w.heap.size, 0, none⟩ (.int .i64 pi)).heap.size) := Hid.mk (by rw [setS]; simp; omega)
      have HY2 := Hid.mk (isBytes_below HDD.out HB2.out)
      have HP2 := Hid.mk d0
      have m0 : ((wo.alloc (.cells #[.int .i64 pb, .int .i64 pi] 106)).setCell ⟨w.heap.size, 0, none⟩ (.int .i64 pi)).cell? ⟨wo.heap.size, 0, none⟩ = some (.int .i64 pb) := cell_of_row _ _ 0 _ _ _ d0
      obtain ⟨q0, q1, q2, q3, q4, q5⟩ := hF2.fr
      clear hb1 hj hj1 hp hKT hsz d0 HO HB HS HF hF2
      have HLI := Hid.mk (lineOf_any 0 pb pi lo fa re sz a len cap dt _ HY2.out HLE.out)
      unfold frameV lnV at HLI
      go_wp2_with fail
      generalize (wo.alloc (.cells #[.int .i64 pb, .int .i64 pi] 106)).setCell ⟨w.heap.size, 0, none⟩ (.int .i64 pi) = W2 at *
      refine HLI.out.mono ?_
      rintro e w5 ⟨a6, c6, rfl, hY5, hf5, hb5⟩
      have hx5 := awB w5 (.cells #[.int .i64 0, .int .i64 pb, .int .i64 pi, .bool lo, .bool fa, .bool re, .int .i64 sz, .slice a6 len c6] 49)
      have HO5 := Hid.mk ((HO2.out.kept hb5).kept hx5)
      have HY5 := Hid.mk (isBytes_below hY5 hx5)
      have HB5 := Hid.mk (bl2 (bl2 HB2.out hb5) hx5)
      have HF5 := Hid.mk ((HF2.out.kept hb5).kept hx5)
      have HS5 : Hid (w.heap.size + 1 ≤ (w5.alloc (.cells #[.int .i64 0, .int .i64 pb, .int .i64 pi, .bool lo, .bool fa, .bool re, .int .i64 sz, .slice a6 len c6] 49)).heap.size) := Hid.mk (Nat.le_trans HS2.out (Nat.le_trans hb5.size hx5.size))
      have HVA : Hid (∀ x, a6 = some x → v.ownBlock ≠ some x.block) := Hid.mk (fun x hx e => by have h1 := (own_ltV HO2.out.row) _ e; have h2 := hf5 x hx; omega)
      have HVF : Hid (∀ x, a6 = some x → w.heap.size + 1 ≤ x.block) := Hid.mk (fun x hx => Nat.le_trans HS2.out (hf5 x hx))
      have HCE := Hid.mk (new_cellsR w5 [.int .i64 0, .int .i64 pb, .int .i64 pi, .bool lo, .bool fa, .bool re, .int .i64 sz, .slice a6 len c6] 49)
      have HPL : Hid (P.length ≤ 100000) := Hid.mk (by have h1 := congrArg List.length HM.out; simp only [List.length_map, List.length_take] at h1; have h2 := HPP.out.len; omega)
      clear hY5 hf5 hb5 hx5 HLI HO2 HB2 HF2 HY2 HP2 HS2 m0 q0 q1 q2 q3 q4 q5 c0 c1
      go_wp2_with (
         at_builtin
         refine wpList_append_two rfl (.tmp 17) (.tmp 22) 29 rfl (w.heap.size + 1) 49 i0 (.agg #[.int .i64 0, .int .i64 0, .int .i64 0, .bool false, .bool false, .bool false, .int .i64 0, .slice none 0 0]) 8 64 Tryd.underlying29 hi hz0 hz1 hz2 rfl (by decide) _ _ _ rfl HO5.out.row ⟨w5.heap.size, 0, none⟩ 1 1 [.int .i64 0, .int .i64 pb, .int .i64 pi, .bool lo, .bool fa, .bool re, .int .i64 sz, .slice a6 len c6] rfl rfl HCE.out (by intro u hu; simp at hu; rcases hu with rfl | rfl | rfl | rfl | rfl | rfl | rfl | rfl <;> rfl) (by decide) (by have := HPL.out; unfold maxLen; omega) (by have := HPL.out; omega) HS5.out ?_
         intro v7 w7 hown7 hgrow7 hblk7
         have HO7 := Hid.mk (HO5.out.add (v := ⟨0, pb, pi, lo, fa, re, sz, a6, len, c6⟩) HY5.out HVA.out HVF.out hown7 hgrow7 hblk7)
         have HGQ : Hid (∀ q, v.ownBlock = some q → w.heap.size + 1 ≤ q) := Hid.mk (fun q hq => (HO5.out.row.lt q hq).1)
         have HB7 := Hid.mk (Below.grown HB5.out hgrow7 HB5.out.size (fun q hq => by have := HGQ.out q hq; omega))
         have HS7 := Hid.mk (Nat.le_trans HS5.out hgrow7.size)
         have HF7 : Hid (∃ j, Row6 w7 w.heap.size j lo fa re sz a len cap) := Hid.mk ⟨_, (hgrow7.block _ HF5.out.lt (fun e => by have h1 := HGQ.out _ e.symm; omega)).trans HF5.out⟩
         clear hown7 hgrow7 hblk7)
      have HM8 : Hid ((P ++ [(⟨0, pb, pi, lo, fa, re, sz, a6, len, c6⟩ : LnR)]).map LnR.k = (pl.take (k + 1)).map (plK lo fa re sz len)) := Hid.mk (by rw [HKT.out, List.map_append, HM.out]; rfl)
      go_roundw
      case rel => exact ⟨_, k + 1, _, rfl, by omega, by go_num, HF7, HO7, HM8, HS7, HB7⟩
      case measure => simp [intOf]; omega
    · obtain rfl : n = k := by omega
      have hPn : P.length = n := by have h1 := congrArg List.length HM.out; simp only [List.length_map, List.length_take] at h1; have h2 := HPP.out.len; omega
      have HSL := Hid.mk (HSO.out v P dt (w.heap.size + 1) _ HO.out (by omega))
      have HPN := Hid.mk hPn
      have HMK : Hid (P.map LnR.k = pl.map (plK lo fa re sz len)) := Hid.mk (by rw [HM.out, List.take_of_length_le (by rw [HPP.out.len]; exact Nat.le_refl _)])
      clear hPn
      go_wp2_with fail
      refine HSL.out.mono ?_
      rintro e w9 ⟨rfl, a', c', P', hv, hL, hperm, hsort, hb9⟩
      have HL9 := Hid.mk hL
      have HPM := Hid.mk hperm
      have HSR := Hid.mk hsort
      have HB9 : Hid (Below w.heap.size w w9) := Hid.mk (HB.out.trans ⟨hb9.os, hb9.tape, hb9.output, hb9.size, fun q hq => hb9.block q (by omega)⟩)
      have HV9 := Hid.mk hv
      clear hL hperm hsort hb9 hv
      go_wp2_with fail
      refine bodyPost_ret (results_tmp rfl _ _ _) rfl ?_
      refine ⟨a', c', P', ?_, by rw [← HPN.out]; exact HL9.out, by rw [← HMK.out]; exact HPM.out.map _, HSR.out, HB9.out⟩
      have e := HV9.out
      rw [HPN.out] at e
      exact congrArg Ending.returned e
end Bw
end Go.Proofs.YtapjiopnjfldhaaDoor
