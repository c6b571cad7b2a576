/- Joined out of our texts: BackRead, TchKit, TakeV, StuffTake, FrRead1. -/
import Derived.Test.YthdhhmflfdbkhaaDoorLawWireFirstPAG
import Derived.Test.YthdhhmflfdbkhaaDoorLawWireFirstPAA
import Derived.Test.YthdhhmflfdbkhaaDoorBase8
import Derived.Test.YthdhhmflfdbkhaaDoorLawWireFirstRAB
import Derived.Test.YthdhhmflfdbkhaaDoorLawWireFirstPAF
import Derived.Deep.RegionWith
import Derived.BigQuiet
import Derived.Lib.QuietBelow
/- What is sent is read: plain facts on lists; of no program. -/
namespace Go.Proofs.YthdhhmflfdbkhaaDoor
namespace Bw
open Bm Cm

theorem unfix_fix (l : List UInt8) (a : UInt8) : ∀ i, i ≤ l.length → unfixL (fixR l a i) 0 = l.take i ∧ (fixR l a i).length = i + (i + 3) / 4
  | 0, _ => by simp [fixR, unfixL]
  | i + 1, h => by
    obtain ⟨h1, h2⟩ := unfix_fix l a i (by omega)
    have hs : ∀ (x : List UInt8) (j : Nat) (c : UInt8), unfixL (x ++ [c]) j = unfixL x j ++ (if (j + x.length) % 5 = 0 then [] else [c]) := by
      intro x
      induction x with
      | nil => intro j c; simp only [List.nil_append, unfixL, List.length_nil, Nat.add_zero]
      | cons d x ih =>
        intro j c
        rw [List.cons_append, unfixL, unfixL, ih, List.length_cons, show j + 1 + x.length = j + (x.length + 1) by omega]
        split <;> simp
    have ht : l.take (i + 1) = l.take i ++ [l.getD i 0] := take_snocL l i (by omega)
    rw [fixR]
    by_cases h4 : i % 4 = 0
    · rw [if_pos h4]
      refine ⟨?_, by simp [h2]; omega⟩
      rw [hs, hs, h1, ht, h2]
      have e1 : (0 + (i + (i + 3) / 4)) % 5 = 0 := by omega
      have e2 : ¬ (0 + (fixR l a i ++ [otb (fixP l a i)]).length) % 5 = 0 := by simp [h2]; omega
      rw [if_pos e1, if_neg e2]; simp
    · rw [if_neg h4]
      refine ⟨?_, by simp [h2]; omega⟩
      rw [hs, h1, ht, h2]
      have e2 : ¬ (0 + (i + (i + 3) / 4)) % 5 = 0 := by omega
      rw [if_neg e2]
theorem unfix_fixL (l : List UInt8) (a : UInt8) : unfixL (fixL l a) 0 = l := by
  unfold fixL
  rw [(unfix_fix l a l.length (Nat.le_refl _)).1, List.take_length]
theorem bytesL_ofL (l : List UInt8) : bytesL (ofL l) = l := by
  unfold bytesL
  rw [ofL_length, Nat.mul_div_cancel_left _ (by omega : 0 < 8)]
  apply List.ext_getElem
  · simp
  intro i h1 h2
  have hi : i < l.length := h2
  simp only [List.getElem_map, List.getElem_range]
  unfold byteAt
  rw [ofL_drop, List.drop_eq_getElem_cons hi, ofL_cons, List.take_append_of_le_length (by rw [bitsHead_length]; omega), List.take_of_length_le (by rw [bitsHead_length]; omega), val_row _ _ (by have := (l[i]).toNat_lt; omega)]
  exact UInt8.ofNat_toNat
theorem sizes_at {n : Nat} (h : n ∈ sizesL) : sizesL.getD (sizesL.idxOf n) 0 = n ∧ sizesL.idxOf n < 16 ∧ n ≤ 64 := by
  have : ∀ m ∈ sizesL, sizesL.getD (sizesL.idxOf m) 0 = m ∧ sizesL.idxOf m < 16 ∧ m ≤ 64 := by decide +kernel
  exact this n h
theorem sizes_small {n : Nat} (h : n ≤ 8) : sizesL.getD n 0 = n := by
  have : ∀ m : Fin 9, sizesL.getD m 0 = m := by decide +kernel
  exact this ⟨n, by omega⟩
/-- what is read ahead of the form -/
theorem name_back (f : Fr) (T r t : List UInt8) (hE : frE f = 0) (hT : T = ([48] ++ nameL f) ++ t) (hrow : rowB T = true) :
    nameP (putF T ++ r) ⟨0, 0, []⟩ = ⟨stP ([48] ++ nameL f), f.id.toNat, f.lo, f.re⟩ := by
  obtain ⟨e1, e2, -⟩ := frE_ok hE
  unfold nameL at hT ⊢
  cases hlo : f.lo
  · rw [hlo] at hT e2
    have hid : f.id.toNat < 2 ^ 11 := by simp [topI] at e2; omega
    simp only [Bool.false_eq_true, if_false] at hT ⊢
    rw [name_short T r t f.id.toNat f.re hid (by rw [hT]; simp) hrow]
    simp
  · rw [hlo] at hT e2
    have hid : f.id.toNat < 2 ^ 29 := by simp [topI] at e2; omega
    simp only [if_true] at hT ⊢
    have hv := val_row f.id.toNat 29 hid
    have hd : ((bitsHead f.id.toNat 29 29).drop 11).length = 18 := by simp [bitsHead_length]
    rw [← List.take_append_drop 11 (bitsHead f.id.toNat 29 29), val_append, hd] at hv
    rw [name_long T r t ((bitsHead f.id.toNat 29 29).take 11) ((bitsHead f.id.toNat 29 29).drop 11) f.id.toNat f.re (by simp [bitsHead_length]) hd hv (by rw [hT]; simp) hrow]
    simp
theorem form_back (f : Fr) (T r p t : List UInt8) (hE : frE f = 0) (hT : T = p ++ (midL f ++ t)) (hrow : rowB T = true) :
    formP (putF T ++ r) (stP p) f.lo f.re = (stP (p ++ midL f), f.fa) := by
  obtain ⟨-, -, e3, -⟩ := frE_ok hE
  unfold formP
  unfold midL at hT ⊢
  cases hfa : f.fa
  · rw [hfa] at hT
    cases hlo : f.lo
    · rw [hlo] at hT
      simp only [Bool.false_eq_true, if_false] at hT ⊢
      rw [takeP_put T r p [48] t 1 hT hrow rfl, if_neg (by simp)]
    · rw [hlo] at hT
      simp only [Bool.false_eq_true, if_false, if_true] at hT ⊢
      rw [takeP_put T r p [48] ([48] ++ t) 1 (by rw [hT]; simp) hrow rfl, if_neg (by simp)]
      have h2 : wantP (putF T ++ r) (stP (p ++ [48])) [48] = stP (p ++ [48] ++ [48]) := wstep_put T r (p ++ [48]) t 48 (by rw [hT]; simp) hrow
      simp only [h2]
      simp
  · rw [hfa] at hT e3
    have hre : f.re = false := by
      cases h : f.re
      · rfl
      · exact absurd (e3 h).1 (by decide)
    simp only [if_true] at hT ⊢
    rw [takeP_put T r p [49] ([48, 49, 48] ++ t) 1 (by rw [hT]; simp) hrow rfl, if_pos rfl, hre]
    have h2 : wantP (putF T ++ r) (stP (p ++ [49])) [48, 49, 48] = stP (p ++ [49] ++ [48] ++ [49] ++ [48]) := by
      show wstep _ (wstep _ (wstep _ _ 48) 49) 48 = _
      rw [wstep_put T r (p ++ [49]) ([49, 48] ++ t) 48 (by rw [hT]; simp) hrow, wstep_put T r (p ++ [49] ++ [48]) ([48] ++ t) 49 (by rw [hT]; simp) hrow, wstep_put T r (p ++ [49] ++ [48] ++ [49]) t 48 (by rw [hT]; simp) hrow]
    simp only [h2]
    simp
theorem data_back (f : Fr) (T r p t : List UInt8) (hE : frE f = 0) (hT : T = p ++ (bitsHead (codeN f) 4 4 ++ (ofL f.dt ++ t))) (hrow : rowB T = true) :
    dataP (putF T ++ r) (stP p) f.fa f.re = ⟨stP (p ++ bitsHead (codeN f) 4 4 ++ ofL f.dt), f.sz.toNat, f.dt⟩ := by
  obtain ⟨-, -, e3, e4, e5, e6, e7, e8, e9⟩ := frE_ok hE
  have hsz := sizes_at e9
  have hcode : codeN f < 2 ^ 4 := by
    unfold codeN
    split
    · omega
    · exact hsz.2.1
  have hn : numP (putF T ++ r) (stP p) 4 = (codeN f, stP (p ++ bitsHead (codeN f) 4 4)) := by
    rw [numP_put T r p (bitsHead (codeN f) 4 4) _ 4 hT hrow (bitsHead_length _ _ _), val_row _ _ hcode]
  have hd : dtN (putF T ++ r) (stP p) = sizesL.getD (codeN f) 0 := by unfold dtN; rw [hn]
  cases hre : f.re
  · have hc : codeN f = sizesL.idxOf f.dt.length := by unfold codeN; rw [hre]; rfl
    have hdn : dtN (putF T ++ r) (stP p) = f.dt.length := by rw [hd, hc]; exact hsz.1
    have h2 : dt2 (putF T ++ r) (stP p) f.fa = stP (p ++ bitsHead (codeN f) 4 4) := by
      unfold dt2
      rw [hdn, hn, if_neg]
      unfold topD
      cases hfa : f.fa
      · have := e8 hfa; simp; omega
      · simp; omega
    unfold dataP
    rw [h2, hdn, takeP_put T r (p ++ bitsHead (codeN f) 4 4) (ofL f.dt) t (8 * f.dt.length) (by rw [hT]; simp) hrow (ofL_length _), bytesL_ofL, e6 hre]
    rfl
  · have hc : codeN f = f.sz.toNat := by unfold codeN; rw [hre]; rfl
    obtain ⟨hfa, hdt⟩ := e3 hre
    have hdn : dtN (putF T ++ r) (stP p) = f.sz.toNat := by rw [hd, hc]; exact sizes_small (by omega)
    have h2 : dt2 (putF T ++ r) (stP p) f.fa = stP (p ++ bitsHead (codeN f) 4 4) := by
      unfold dt2
      rw [hdn, hn, if_neg]
      unfold topD
      rw [hfa]; simp; omega
    have hnil : f.dt = [] := List.eq_nil_of_length_eq_zero hdt
    unfold dataP
    rw [h2, hdn, hnil]
    simp [ofL]
/-- a frame's bits ahead of the last ten -/
def preL (f : Fr) : List UInt8 := if f.fa then putF (headL f) ++ fastL (headL f) (putF (headL f)) f.dt.length else putF (headL f ++ sumL 0 (headL f))
theorem bitsL_pre (f : Fr) : bitsL f = preL f ++ onesL := by unfold bitsL preL; split <;> rfl
theorem end_back (x e rest o : List UInt8) (he : e = onesL ∨ e = heardL) : endP (x ++ (e ++ rest)) ⟨0, x.length, o⟩ = ⟨0, x.length + 10, o⟩ := by
  have hl : e.length = 10 := by rcases he with rfl | rfl <;> rfl
  have h : nextP (x ++ (e ++ rest)) ⟨0, x.length, o⟩ 10 = (e, ⟨0, x.length + 10, o⟩) := by
    unfold nextP
    simp only
    rw [if_pos trivial, if_neg (by simp; omega), List.drop_left, ← hl, List.take_left]
  unfold endP
  rw [h, if_pos he]
theorem read_back (f : Fr) (e rest : List UInt8) (hE : frE f = 0) (he : e = onesL ∨ e = heardL) :
    (rdE (preL f ++ (e ++ rest))).fl = 0 ∧ (rdE (preL f ++ (e ++ rest))).u = (preL f).length + 10 ∧ rdF (preL f ++ (e ++ rest)) = f := by
  obtain ⟨e1, -, -, e4, -⟩ := frE_ok hE
  have hh : headL f = ([48] ++ nameL f) ++ (midL f ++ (bitsHead (codeN f) 4 4 ++ ofL f.dt)) := by unfold headL; simp
  have hp : [48] ++ nameL f ++ midL f ++ bitsHead (codeN f) 4 4 ++ ofL f.dt = headL f := rfl
  cases hfa : f.fa
  · have hb : preL f ++ (e ++ rest) = putF (headL f ++ sumL 0 (headL f)) ++ (e ++ rest) := by unfold preL; rw [hfa]; rfl
    have hrow : rowB (headL f ++ sumL 0 (headL f)) = true := by rw [rowB_append, headL_row, sumL_row]; rfl
    have hpl : preL f = putF (headL f ++ sumL 0 (headL f)) := by unfold preL; rw [hfa]; rfl
    rw [hb]
    have hA : rdA (putF (headL f ++ sumL 0 (headL f)) ++ (e ++ rest)) = ⟨stP ([48] ++ nameL f), f.id.toNat, f.lo, f.re⟩ :=
      name_back f _ _ ((midL f ++ (bitsHead (codeN f) 4 4 ++ ofL f.dt)) ++ sumL 0 (headL f)) hE (by rw [hh]; simp only [List.append_assoc]) hrow
    have hB : rdB (putF (headL f ++ sumL 0 (headL f)) ++ (e ++ rest)) = (stP ([48] ++ nameL f ++ midL f), f.fa) := by
      unfold rdB
      rw [hA]
      exact form_back f _ _ _ ((bitsHead (codeN f) 4 4 ++ ofL f.dt) ++ sumL 0 (headL f)) hE (by rw [hh]; simp only [List.append_assoc]) hrow
    have hD : rdD (putF (headL f ++ sumL 0 (headL f)) ++ (e ++ rest)) = ⟨stP (headL f), f.sz.toNat, f.dt⟩ := by
      unfold rdD
      rw [hA, hB, ← hp]
      exact data_back f _ _ _ (sumL 0 (headL f)) hE (by rw [hh]; simp only [List.append_assoc]) hrow
    have hS : rdS (putF (headL f ++ sumL 0 (headL f)) ++ (e ++ rest)) = stP (headL f ++ sumL 0 (headL f)) := by
      unfold rdS
      rw [hB, hD, hfa]
      simp only [Bool.false_eq_true, if_false]
      unfold sumP
      rw [takeP_put _ _ (headL f) (sumL 0 (headL f)) [] 15 (by simp) hrow (sumL_len _ _)]
      rw [if_pos (show sumL 0 (headL f) = sumL 0 (stP (headL f)).o from rfl)]
    have hEe : rdE (putF (headL f ++ sumL 0 (headL f)) ++ (e ++ rest)) = ⟨0, (preL f).length + 10, headL f ++ sumL 0 (headL f)⟩ := by
      unfold rdE
      rw [hS, hpl]
      exact end_back _ e rest _ he
    refine ⟨by rw [hEe], by rw [hEe], ?_⟩
    unfold rdF
    rw [hA, hB, hD]
    simp only [Int.toNat_of_nonneg e1, Int.toNat_of_nonneg e4]
  · have hpl : preL f = putF (headL f) ++ fastL (headL f) (putF (headL f)) f.dt.length := by unfold preL; rw [hfa]; rfl
    have hb : preL f ++ (e ++ rest) = putF (headL f) ++ (fastL (headL f) (putF (headL f)) f.dt.length ++ (e ++ rest)) := by rw [hpl, List.append_assoc]
    have hrow : rowB (headL f) = true := headL_row f
    have hb0 := hb
    rw [hb]
    generalize hrr : fastL (headL f) (putF (headL f)) f.dt.length ++ (e ++ rest) = rr at *
    have hA : rdA (putF (headL f) ++ rr) = ⟨stP ([48] ++ nameL f), f.id.toNat, f.lo, f.re⟩ :=
      name_back f _ _ (midL f ++ (bitsHead (codeN f) 4 4 ++ ofL f.dt)) hE hh hrow
    have hB : rdB (putF (headL f) ++ rr) = (stP ([48] ++ nameL f ++ midL f), f.fa) := by
      unfold rdB
      rw [hA]
      exact form_back f _ _ _ (bitsHead (codeN f) 4 4 ++ ofL f.dt) hE (by rw [hh]) hrow
    have hD : rdD (putF (headL f) ++ rr) = ⟨stP (headL f), f.sz.toNat, f.dt⟩ := by
      unfold rdD
      rw [hA, hB, ← hp]
      exact data_back f _ _ _ [] hE (by simp only [List.append_assoc, List.append_nil]) hrow
    have htk : (putF (headL f) ++ rr).take (putF (headL f)).length = putF (headL f) := List.take_left
    have hnx : nextP (putF (headL f) ++ rr) (stP (headL f)) (fastL (headL f) (putF (headL f)) f.dt.length).length = (fastL (headL f) (putF (headL f)) f.dt.length, ⟨0, (preL f).length, headL f⟩) := by
      unfold nextP stP
      simp only
      rw [if_pos trivial, if_neg (by rw [← hrr]; simp), List.drop_left, ← hrr, List.take_left, hpl, List.length_append]
    have hS : rdS (putF (headL f) ++ rr) = ⟨0, (preL f).length, headL f⟩ := by
      unfold rdS
      rw [hB, hD, hfa]
      simp only [if_true]
      unfold fixedP
      rw [if_pos (show (stP (headL f)).fl = 0 from rfl), show (stP (headL f)).u = (putF (headL f)).length from rfl, show (stP (headL f)).o = headL f from rfl, htk, hnx]
      simp only
      rw [if_pos, if_pos trivial]
      show _ = fixL (unfixL (fixL _ _) 0) _
      rw [unfix_fixL]
      rfl
    have hEe : rdE (putF (headL f) ++ rr) = ⟨0, (preL f).length + 10, headL f⟩ := by
      unfold rdE
      rw [hS, ← hb0]
      exact end_back _ e rest _ he
    refine ⟨by rw [hEe], by rw [hEe], ?_⟩
    unfold rdF
    rw [hA, hB, hD]
    simp only [Int.toNat_of_nonneg e1, Int.toNat_of_nonneg e4]
end Bw
end Go.Proofs.YthdhhmflfdbkhaaDoor

/- Variables of one cell, and worlds of which only some blocks have turned; none walks a function. -/
namespace Go.Proofs.YthdhhmflfdbkhaaDoor
open Go.ChangeShapes Go.WideShapes Go.ChangeAt Go.RowKit
namespace Bw
/-- a variable of one cell -/
def BoxAt (w : World) (g : Nat) (t : TypeId) (v : Value) : Prop := w.heap[g]? = some (.cells #[v] t (0, 0))
theorem BoxAt.lt {w : World} {g : Nat} {t : TypeId} {v : Value} (h : BoxAt w g t v) : g < w.heap.size := by
  rcases Nat.lt_or_ge g w.heap.size with h' | h'
  · exact h'
  · unfold BoxAt at h; rw [Array.getElem?_eq_none h'] at h; cases h
theorem BoxAt.cell {w : World} {g : Nat} {t : TypeId} {v : Value} (h : BoxAt w g t v) : w.cell? ⟨g, 0, none⟩ = some v := by
  rw [cell_of_row w g 0 _ _ _ h]; rfl
theorem BoxAt.frozen {w : World} {g : Nat} {t : TypeId} {v : Value} (h : BoxAt w g t v) : w.frozen? ⟨g, 0, none⟩ = false := frozen_of_row w g 0 _ _ h
theorem BoxAt.kept {w w' : World} {g : Nat} {t : TypeId} {v : Value} (h : BoxAt w g t v) (hb : Below w.heap.size w w') : BoxAt w' g t v := by
  unfold BoxAt; rw [hb.block g h.lt]; exact h
theorem BoxAt.set {w : World} {g : Nat} {t : TypeId} {v : Value} (h : BoxAt w g t v) (u : Value) : BoxAt (w.setCell ⟨g, 0, none⟩ u) g t u := heap_setCell_same w g 0 _ t u h
theorem BoxAt.other {w : World} {g k : Nat} {t : TypeId} {v : Value} (h : BoxAt w g t v) (u : Value) (hk : g ≠ k) : BoxAt (w.setCell ⟨k, 0, none⟩ u) g t v := by
  unfold BoxAt; rw [Below.heap_setCell _ _ _ _ hk]; exact h
/-- of what was there only these blocks have turned -/
structure Tch (gs : List Nat) (w w' : World) : Prop where
  os : w'.os = w.os
  tape : w'.tape = w.tape
  output : w'.output = w.output
  size : w.heap.size ≤ w'.heap.size
  block : ∀ k, k < w.heap.size → k ∉ gs → w'.heap[k]? = w.heap[k]?
theorem Tch.refl (gs : List Nat) (w : World) : Tch gs w w := ⟨rfl, rfl, rfl, Nat.le_refl _, fun _ _ _ => rfl⟩
theorem Tch.of {gs : List Nat} {w w' : World} (h : Below w.heap.size w w') : Tch gs w w' := ⟨h.os, h.tape, h.output, h.size, fun k hk _ => h.block k hk⟩
theorem Tch.trans {gs : List Nat} {w a b : World} (h1 : Tch gs w a) (h2 : Tch gs a b) : Tch gs w b :=
  ⟨h2.os.trans h1.os, h2.tape.trans h1.tape, h2.output.trans h1.output, Nat.le_trans h1.size h2.size, fun k hk hg => (h2.block k (Nat.lt_of_lt_of_le hk h1.size) hg).trans (h1.block k hk hg)⟩
theorem Tch.set {gs : List Nat} {w a : World} (h : Tch gs w a) {g : Nat} (hg : g ∈ gs) (u : Value) : Tch gs w (a.setCell ⟨g, 0, none⟩ u) :=
  h.trans ⟨rfl, rfl, rfl, by simp [World.setCell], fun k _ hk => Below.heap_setCell _ _ _ _ (fun e => hk (e ▸ hg))⟩
theorem Tch.setK {gs : List Nat} {w a : World} (h : Tch gs w a) {g : Nat} (hg : g ∈ gs) (k : Nat) (u : Value) : Tch gs w (a.setCell ⟨g, k, none⟩ u) :=
  h.trans ⟨rfl, rfl, rfl, by simp [World.setCell], fun q _ hq => Below.heap_setCell _ _ _ _ (fun e => hq (e ▸ hg))⟩
theorem Tch.below {gs : List Nat} {w a b : World} {B : Nat} (h : Below B w a) (ht : Tch gs a b) (hg : ∀ g ∈ gs, B ≤ g) (hB : B ≤ w.heap.size) : Below B w b :=
  ⟨ht.os.trans h.os, ht.tape.trans h.tape, ht.output.trans h.output, Nat.le_trans h.size ht.size, fun k hk => (ht.block k (by have := h.size; omega) (fun e => by have := hg k e; omega)).trans (h.block k hk)⟩
theorem Tch.box {gs : List Nat} {w w' : World} (ht : Tch gs w w') {g : Nat} {t : TypeId} {v : Value} (h : BoxAt w g t v) (hg : g ∉ gs) : BoxAt w' g t v := by
  unfold BoxAt; rw [ht.block g h.lt hg]; exact h

end Bw
end Go.Proofs.YthdhhmflfdbkhaaDoor

/- An answer of three: a row, a number, an error. -/
namespace Go.Proofs.YthdhhmflfdbkhaaDoor
namespace Bw
def takeV (A : List UInt8 × Nat × Int) : Value := .tuple #[.string ⟨A.1.toArray⟩, .int .i64 A.2.1, .int .i64 A.2.2]
end Bw
end Go.Proofs.YthdhhmflfdbkhaaDoor

/- What stuff.Take answers of any text and any number: the bits that were there ahead of Put, how many bits they take, and else which error. -/
namespace Go.Proofs.YthdhhmflfdbkhaaDoor
open Go.ChangeShapes Go.WideShapes Go.ChangeAt Go.RowKit
namespace Bw
open Bm

set_option maxHeartbeats 1000000 in
theorem take_bad (s : ByteArray) (n : Int) (w : World) (hs : s.size ≤ maxLen) (hc : checkE s.data.toList ≠ 0) :
    Calls Tryd.prog 79 #[.string s, .int .i64 n] w fun e w' => e = .returned (.tuple #[.string ⟨#[]⟩, .int .i64 0, .int .i64 (checkE s.data.toList)]) ∧ Below w.heap.size w w' := by
  have HS := Hid.mk hs
  have hc' : (checkE s.data.toList == 0) = false := by simpa using hc
  clear hs
  go_enter Tryd.func79, Tryd.ntmps79
  go_wp2_with fail
  refine (check_any s w HS.out).mono ?_
  rintro e w1 ⟨rfl, hb1⟩
  go_wp2_with fail
  go_ret3
  exact ⟨rfl, hb1⟩

set_option maxHeartbeats 1000000 in
theorem take_range (s : ByteArray) (n : Int) (w : World) (hc : checkE s.data.toList = 0) (hn : n < 0 ∨ 1000 < n) :
    Calls Tryd.prog 79 #[.string s, .int .i64 n] w fun e w' => e = .returned (.tuple #[.string ⟨#[]⟩, .int .i64 0, .int .i64 3]) ∧ Below w.heap.size w w' := by
  obtain ⟨h1000, hrow⟩ := small_of_check hc
  have hck := fun W => check_any s W (by unfold maxLen; omega)
  rw [hc] at hck
  have HN := Hid.mk hn
  clear hc hrow hn
  go_enter Tryd.func79, Tryd.ntmps79
  go_wp2_with fail
  refine (hck w).mono ?_
  rintro e w1 ⟨rfl, hb1⟩
  clear hck
  go_wp2_with fail
  refine (isLength_no n w1 HN.out).mono ?_
  rintro e w2 ⟨rfl, hw2⟩
  subst hw2
  go_wp2_with fail
  go_ret3
  exact ⟨rfl, hb1⟩


set_option maxHeartbeats 8000000 in
set_option maxRecDepth 100000 in
theorem take_ok (s : ByteArray) (n : Nat) (w : World) (hc : checkE s.data.toList = 0) (hn : n ≤ 1000) :
    Calls Tryd.prog 79 #[.string s, .int .i64 n] w fun e w' => e = .returned (takeV (takeG s.data.toList n 0 [])) ∧ Below w.heap.size w w' := by
  obtain ⟨i0, hi, hz0, hz1, hz2⟩ := info_parts info_u8
  obtain ⟨h1000, hrow⟩ := small_of_check hc
  have hck := fun W => check_any s W (by unfold maxLen; omega)
  rw [hc] at hck
  clear hc hrow
  obtain ⟨A, hA⟩ : ∃ A, A = takeG s.data.toList n 0 [] := ⟨_, rfl⟩
  rw [← hA]
  have HA := Hid.mk hA
  clear hA
  have hll : s.data.toList.length = s.size := by simp
  have HLL := Hid.mk hll
  clear hll
  go_enter Tryd.func79, Tryd.ntmps79
  go_wp2_with fail
  refine (hck w).mono ?_
  rintro e w1 ⟨rfl, hb1⟩
  clear hck
  have hw1 := hb1.size
  go_wp2_with fail
  refine (isLength_yes n w1 (by omega) (by omega)).mono ?_
  rintro e w2 ⟨rfl, hw2⟩
  subst hw2
  go_wp2_with fail
  go_loopw [8, 10, 21] (fun r uu i wr => ∃ (k u : Nat) (o : List UInt8), k ≤ n ∧ u ≤ s.size ∧ i = .int .i64 k ∧ uu = .int .i64 u ∧ o.length = k ∧ (endR (s.data.toList.take u)).2 ≤ 4 ∧ takeG s.data.toList (n - k) u o = A ∧ wr.ownsRow (w2.heap.size + 1) 5 1 r o.length (cellsOf o) ∧ isRun wr w2.heap.size (endR (s.data.toList.take u)) ∧ Below w.heap.size w wr ∧ w2.heap.size + 1 ≤ wr.heap.size) (fun _ _ i _ => n - (intOf i).toNat)
  case atStart => exact ⟨0, 0, [], Nat.zero_le _, Nat.zero_le _, rfl, rfl, rfl, by simp [endR], HA.out.symm, World.ownsRow_nil _ _ _ _, heap_alloc_new w2 _, hb1.alloc hw1 _, by simp⟩
  case round =>
    obtain ⟨k, u, o, hk, hu, rfl, rfl, hol, h4, hG, hown, hrun, hbel, hsz⟩ := hrel
    have HG := Hid.mk hG
    have H4 := Hid.mk h4
    have HOL := Hid.mk hol
    have HRUN := Hid.mk hrun
    have hol2 : o.length ≤ 1000 := by omega
    clear hG h4 hrun hol
    by_cases hkn : k < n
    · have hkn' : (k : Int) < (n : Int) := by omega
      have hm : n - k = (n - (k + 1)) + 1 := by omega
      have HM := Hid.mk hm
      clear hm
      by_cases hlt : u < s.size
      · have hlt' : (u : Int) < (s.size : Int) := by omega
        obtain ⟨c, hcE⟩ : ∃ c, c = s[u] := ⟨_, rfl⟩
        have hgd : s.data.toList.getD u 0 = c := by rw [hcE, at_getD s u hlt]
        have HGD := Hid.mk hgd
        have hcv : s[u] = c := hcE.symm
        clear hcE hgd
        go_wp2_with (at_builtin; refine wpList_append_own _ rfl (.tmp 32) (.tmp 34) 28 rfl (w2.heap.size + 1) 5 i0 (.int .u8 0) 1 1 Tryd.underlying28 hi hz0 hz1 hz2 rfl (by decide) _ _ _ rfl (hown.alloc _) ⟨wr.heap.size, 0, none⟩ 1 1 [Value.int .u8 c.toNat] rfl rfl (by intro q u hq; match q, hq with | 0, hq => (simp at hq; subst hq; simp [Addr.add])) (by intro u hu; simp at hu; subst hu; rfl) (by unfold maxLen; omega) (by omega) (by simp; omega) ?_; intro v1 w3 hown1 hgrow1 _)
        have hbw3 : Below (w2.heap.size + 1) wr w3 := Below.grown ((Below.refl _ _).alloc hsz _) hgrow1 (by simp; omega) (fun q hq => (hown.lt q hq).1)
        have hrun3 := isRun_at HRUN.out hbw3 (by omega)
        have hbel3 := hbel.trans (hbw3.mono (Nat.le_trans hw1 (Nat.le_succ _)))
        have hsz3 : w2.heap.size + 1 ≤ w3.heap.size := Nat.le_trans hsz hbw3.size
        have hown1' : w3.ownsRow (w2.heap.size + 1) 5 1 v1 (o ++ [c]).length (cellsOf (o ++ [c])) := by
          rw [cellsOf_append, List.length_append]; exact hown1
        have HOWN1 := Hid.mk hown1'
        have hadd := add_any w2.heap.size (endR (s.data.toList.take u)) c w3 (by have := H4.out; omega) hrun3
        have hnx := end_next s.data.toList u (by rw [HLL.out]; exact hlt)
        rw [HGD.out] at hnx
        rw [← hnx] at hadd
        have HADD := Hid.mk hadd
        have hon := end_on s.data.toList u (by rw [HLL.out]; exact hlt) H4.out
        have HON := Hid.mk hon
        clear hown hown1 hown1' hgrow1 hbw3 hbel hsz hrun3 HRUN hadd hnx hon
        go_wp2_with fail
        refine HADD.out.mono ?_
        rintro e w4 ⟨rfl, hrun4, hat4⟩
        have hown4 := hat4.owns HOWN1.out (Nat.lt_succ_self _)
        have hbel4 := hbel3.trans (hat4.below hw1)
        have hsz4 : w2.heap.size + 1 ≤ w4.heap.size := by rw [hat4.size]; exact hsz3
        have HRUN4 := Hid.mk hrun4
        clear HOWN1 HADD hat4 hbel3 hsz3 hrun4
        by_cases h5 : (endR (s.data.toList.take (u + 1))).2 = 5
        · have h5b : ((endR (s.data.toList.take (u + 1))).2 == 5) = true := by simpa using h5
          have H5 := Hid.mk h5
          clear h5
          by_cases hlt2 : u + 1 < s.size
          · have hlt2' : (u : Int) + 1 < (s.size : Int) := by omega
            obtain ⟨d, hdE⟩ : ∃ d, d = s[u + 1] := ⟨_, rfl⟩
            have hgd2 : s.data.toList.getD (u + 1) 0 = d := by rw [hdE, at_getD s (u + 1) hlt2]
            have HGD2 := Hid.mk hgd2
            have hdv : s[u + 1] = d := hdE.symm
            clear hdE hgd2
            by_cases h6 : d = c
            · have h6' : ((d.toNat : Int) == (c.toNat : Int)) = true := by rw [h6]; simp
              have hfin : A = ([], 0, 5) := by
                rw [← HG.out, HM.out]
                exact takeG_six _ _ _ _ (by rw [HLL.out]; exact hlt2) H5.out (by rw [HGD.out, HGD2.out]; exact h6)
              subst hfin
              clear h6
              go_wp2_with fail
              go_ret3
              exact ⟨rfl, hbel4⟩
            · have h6' : ((d.toNat : Int) == (c.toNat : Int)) = false := by
                have : d.toNat ≠ c.toNat := fun h => h6 (UInt8.toNat_inj.1 h)
                rw [beq_eq_false_iff_ne]; omega
              have hG2 : takeG s.data.toList (n - (k + 1)) (u + 2) (o ++ [c]) = A := by
                rw [← HG.out, HM.out, takeG_on5 _ _ _ _ (by rw [HLL.out]; exact hlt2) H5.out (by rw [HGD.out, HGD2.out]; exact h6), HGD.out]
              have HG2 := Hid.mk hG2
              have hadd := add_any w2.heap.size (endR (s.data.toList.take (u + 1))) d w4 (by have := H5.out; omega) HRUN4.out
              have hnx := end_next s.data.toList (u + 1) (by rw [HLL.out]; exact hlt2)
              rw [HGD2.out] at hnx
              rw [← hnx] at hadd
              have HADD := Hid.mk hadd
              have hon := end_on5 s.data.toList u (by rw [HLL.out]; exact hlt2) (by rw [HGD.out, HGD2.out]; exact h6)
              have hon' : (endR (s.data.toList.take (u + 2))).2 ≤ 4 := by rw [hon]; simp
              have HON2 := Hid.mk hon'
              clear h6 hG2 hadd hnx hon hon' HRUN4
              go_wp2_with fail
              refine HADD.out.mono ?_
              rintro e w5 ⟨rfl, hrun5, hat5⟩
              have hown5 := hat5.owns hown4 (Nat.lt_succ_self _)
              have hbel5 := hbel4.trans (hat5.below hw1)
              have hsz5 : w2.heap.size + 1 ≤ w5.heap.size := by rw [hat5.size]; exact hsz4
              clear hown4 HADD hat5 hbel4 hsz4
              go_wp2_with fail
              go_roundw
              case rel => exact ⟨k + 1, u + 2, o ++ [c], by omega, by omega, by go_num, int_eq (by omega), by rw [List.length_append, HOL.out]; rfl, HON2.out, HG2.out, hown5, hrun5, hbel5, hsz5⟩
              case measure => simp [intOf]; omega
          · have hlt2' : ((u : Int) + 1 == (s.size : Int)) = true := by simp; omega
            have hfin : A = ([], 0, 7) := by
              rw [← HG.out, HM.out]
              exact takeG_end5 _ _ _ _ (by rw [HLL.out]; omega) H5.out
            subst hfin
            go_wp2_with fail
            go_ret3
            exact ⟨rfl, hbel4⟩
        · have h5b : ((endR (s.data.toList.take (u + 1))).2 == 5) = false := by simpa using h5
          have hG2 : takeG s.data.toList (n - (k + 1)) (u + 1) (o ++ [c]) = A := by
            rw [← HG.out, HM.out, takeG_on _ _ _ _ (by rw [HLL.out]; exact hlt) h5, HGD.out]
          have HG2 := Hid.mk hG2
          have hon := HON.out h5
          have HON2 := Hid.mk hon
          clear h5 hG2 hon
          go_wp2_with fail
          go_roundw
          case rel => exact ⟨k + 1, u + 1, o ++ [c], by omega, by omega, by go_num, int_eq (by omega), by rw [List.length_append, HOL.out]; rfl, HON2.out, HG2.out, hown4, HRUN4.out, hbel4, hsz4⟩
          case measure => simp [intOf]; omega
      · have hlt' : ((u : Int) == (s.size : Int)) = true := by simp; omega
        have hfin : A = ([], 0, 7) := by
          rw [← HG.out, HM.out]
          exact takeG_end _ _ _ _ (by rw [HLL.out]; omega)
        subst hfin
        clear hown
        go_wp2_with fail
        go_ret3
        exact ⟨rfl, hbel⟩
    · have e : k = n := by omega
      subst e
      have hfin : A = (o, u, 0) := by rw [← HG.out, Nat.sub_self, takeG_zero]
      subst hfin
      have hcv := convert_own hown
      clear hown
      go_wp2_with fail
      go_ret3
      exact ⟨rfl, hbel⟩
end Bw
end Go.Proofs.YthdhhmflfdbkhaaDoor

/- What the readers' small methods answer: a fault, plain bits, bits without those put in. -/
namespace Go.Proofs.YthdhhmflfdbkhaaDoor
open Go.ChangeShapes Go.WideShapes Go.ChangeAt Go.RowKit
namespace Bw
open Bm Cm Go.Sort

/-- what a reader knows of the frame -/
structure Fd where
  id : Int
  lo : Bool
  fa : Bool
  re : Bool
  sz : Int
  d : Value
/-- block g holds a reader -/
def RdAt (w : World) (g : Nat) (b : ByteArray) (S : RS) (F : Fd) : Prop :=
  w.heap[g]? = some (.cells #[.string b, .int .i64 S.u, .int .i64 S.fl, .string ⟨S.o.toArray⟩, .int .i64 F.id, .bool F.lo, .bool F.fa, .bool F.re, .int .i64 F.sz, F.d] 67 (0, 0))
theorem RdAt.lt {w : World} {g : Nat} {b : ByteArray} {S : RS} {F : Fd} (h : RdAt w g b S F) : g < w.heap.size := by
  rcases Nat.lt_or_ge g w.heap.size with h' | h'
  · exact h'
  · unfold RdAt at h; rw [Array.getElem?_eq_none h'] at h; cases h
theorem RdAt.kept {w w' : World} {g : Nat} {b : ByteArray} {S : RS} {F : Fd} (h : RdAt w g b S F) (hb : Below w.heap.size w w') : RdAt w' g b S F := by
  unfold RdAt; rw [hb.block g h.lt]; exact h
theorem RdAt.cell {w : World} {g : Nat} {b : ByteArray} {S : RS} {F : Fd} (h : RdAt w g b S F) (k : Nat) : w.cell? ⟨g, k, none⟩ = #[.string b, .int .i64 S.u, .int .i64 S.fl, .string ⟨S.o.toArray⟩, .int .i64 F.id, .bool F.lo, .bool F.fa, .bool F.re, .int .i64 F.sz, F.d][k]? := cell_of_row w g k _ _ _ h
theorem RdAt.c0 {w : World} {g : Nat} {b : ByteArray} {S : RS} {F : Fd} (h : RdAt w g b S F) : w.cell? ⟨g, 0, none⟩ = some (.string b) := h.cell 0
theorem RdAt.c1 {w : World} {g : Nat} {b : ByteArray} {S : RS} {F : Fd} (h : RdAt w g b S F) : w.cell? ⟨g, 1, none⟩ = some (.int .i64 S.u) := h.cell 1
theorem RdAt.c2 {w : World} {g : Nat} {b : ByteArray} {S : RS} {F : Fd} (h : RdAt w g b S F) : w.cell? ⟨g, 2, none⟩ = some (.int .i64 S.fl) := h.cell 2
theorem RdAt.c3 {w : World} {g : Nat} {b : ByteArray} {S : RS} {F : Fd} (h : RdAt w g b S F) : w.cell? ⟨g, 3, none⟩ = some (.string ⟨S.o.toArray⟩) := h.cell 3
theorem RdAt.c4 {w : World} {g : Nat} {b : ByteArray} {S : RS} {F : Fd} (h : RdAt w g b S F) : w.cell? ⟨g, 4, none⟩ = some (.int .i64 F.id) := h.cell 4
theorem RdAt.c5 {w : World} {g : Nat} {b : ByteArray} {S : RS} {F : Fd} (h : RdAt w g b S F) : w.cell? ⟨g, 5, none⟩ = some (.bool F.lo) := h.cell 5
theorem RdAt.c6 {w : World} {g : Nat} {b : ByteArray} {S : RS} {F : Fd} (h : RdAt w g b S F) : w.cell? ⟨g, 6, none⟩ = some (.bool F.fa) := h.cell 6
theorem RdAt.c7 {w : World} {g : Nat} {b : ByteArray} {S : RS} {F : Fd} (h : RdAt w g b S F) : w.cell? ⟨g, 7, none⟩ = some (.bool F.re) := h.cell 7
theorem RdAt.c8 {w : World} {g : Nat} {b : ByteArray} {S : RS} {F : Fd} (h : RdAt w g b S F) : w.cell? ⟨g, 8, none⟩ = some (.int .i64 F.sz) := h.cell 8
theorem RdAt.c9 {w : World} {g : Nat} {b : ByteArray} {S : RS} {F : Fd} (h : RdAt w g b S F) : w.cell? ⟨g, 9, none⟩ = some F.d := h.cell 9
theorem RdAt.z {w : World} {g : Nat} {b : ByteArray} {S : RS} {F : Fd} (h : RdAt w g b S F) (k : Nat) : w.frozen? ⟨g, k, none⟩ = false := frozen_of_row w g k _ _ h
theorem RdAt.setU {w : World} {g : Nat} {b : ByteArray} {S : RS} {F : Fd} (h : RdAt w g b S F) (n : Nat) : RdAt (w.setCell ⟨g, 1, none⟩ (.int .i64 n)) g b ⟨S.fl, n, S.o⟩ F := heap_setCell_same w g 1 _ _ _ h
theorem RdAt.setFl {w : World} {g : Nat} {b : ByteArray} {S : RS} {F : Fd} (h : RdAt w g b S F) (e : Int) : RdAt (w.setCell ⟨g, 2, none⟩ (.int .i64 e)) g b ⟨e, S.u, S.o⟩ F := heap_setCell_same w g 2 _ _ _ h
theorem RdAt.setO {w : World} {g : Nat} {b : ByteArray} {S : RS} {F : Fd} (h : RdAt w g b S F) (o : List UInt8) : RdAt (w.setCell ⟨g, 3, none⟩ (.string ⟨o.toArray⟩)) g b ⟨S.fl, S.u, o⟩ F := heap_setCell_same w g 3 _ _ _ h
theorem RdAt.setId {w : World} {g : Nat} {b : ByteArray} {S : RS} {F : Fd} (h : RdAt w g b S F) (x : Int) : RdAt (w.setCell ⟨g, 4, none⟩ (.int .i64 x)) g b S ⟨x, F.lo, F.fa, F.re, F.sz, F.d⟩ := heap_setCell_same w g 4 _ _ _ h
theorem RdAt.setLo {w : World} {g : Nat} {b : ByteArray} {S : RS} {F : Fd} (h : RdAt w g b S F) (x : Bool) : RdAt (w.setCell ⟨g, 5, none⟩ (.bool x)) g b S ⟨F.id, x, F.fa, F.re, F.sz, F.d⟩ := heap_setCell_same w g 5 _ _ _ h
theorem RdAt.setFa {w : World} {g : Nat} {b : ByteArray} {S : RS} {F : Fd} (h : RdAt w g b S F) (x : Bool) : RdAt (w.setCell ⟨g, 6, none⟩ (.bool x)) g b S ⟨F.id, F.lo, x, F.re, F.sz, F.d⟩ := heap_setCell_same w g 6 _ _ _ h
theorem RdAt.setRe {w : World} {g : Nat} {b : ByteArray} {S : RS} {F : Fd} (h : RdAt w g b S F) (x : Bool) : RdAt (w.setCell ⟨g, 7, none⟩ (.bool x)) g b S ⟨F.id, F.lo, F.fa, x, F.sz, F.d⟩ := heap_setCell_same w g 7 _ _ _ h
theorem RdAt.setSz {w : World} {g : Nat} {b : ByteArray} {S : RS} {F : Fd} (h : RdAt w g b S F) (x : Int) : RdAt (w.setCell ⟨g, 8, none⟩ (.int .i64 x)) g b S ⟨F.id, F.lo, F.fa, F.re, x, F.d⟩ := heap_setCell_same w g 8 _ _ _ h
theorem RdAt.setD {w : World} {g : Nat} {b : ByteArray} {S : RS} {F : Fd} (h : RdAt w g b S F) (x : Value) : RdAt (w.setCell ⟨g, 9, none⟩ x) g b S ⟨F.id, F.lo, F.fa, F.re, F.sz, x⟩ := heap_setCell_same w g 9 _ _ _ h
theorem Tch.rd {gs : List Nat} {w w' : World} (ht : Tch gs w w') {g : Nat} {b : ByteArray} {S : RS} {F : Fd} (h : RdAt w g b S F) (hg : g ∉ gs) : RdAt w' g b S F := by
  unfold RdAt; rw [ht.block g h.lt hg]; exact h

set_option maxHeartbeats 1000000 in
theorem fail_any (g : Nat) (b : ByteArray) (S : RS) (F : Fd) (x : Int) (w : World) (h : RdAt w g b S F) :
    Calls Tryd.prog 63 #[.pointer (some ⟨g, 0, none⟩), .int .i64 x] w fun e w' => e = .returned (.tuple #[]) ∧ RdAt w' g b (failP S x) F ∧ Tch [g] w w' := by
  have hc := h.c2
  have hz := h.z 2
  have H := Hid.mk h
  unfold failP
  clear h
  by_cases hf : S.fl = 0
  · rw [if_pos hf]
    rw [hf] at hc
    go_enter Tryd.func63, Tryd.ntmps63
    go_wp2_with fail
    go_end0
    exact ⟨rfl, H.out.setFl x, (Tch.refl _ _).setK (by simp) _ _⟩
  · rw [if_neg hf]
    have h1 : (S.fl == 0) = false := by simpa using hf
    go_enter Tryd.func63, Tryd.ntmps63
    go_wp2_with fail
    go_end0
    exact ⟨rfl, H.out, Tch.refl _ _⟩

theorem failP_7 (b : List UInt8) (S : RS) (n : Nat) (h : b.length < S.u + n) : (failP S 7).fl ≠ 0 ∧ nextP b S n = ([], failP S 7) := by
  unfold failP nextP
  by_cases hf : S.fl = 0
  · rw [if_pos hf, if_pos hf, if_pos h]
    exact ⟨by simp, rfl⟩
  · rw [if_neg hf, if_neg hf]
    exact ⟨hf, rfl⟩
set_option maxHeartbeats 2000000 in
theorem nextB_any (g n : Nat) (b : ByteArray) (S : RS) (F : Fd) (w : World) (h : RdAt w g b S F) (h1000 : b.size ≤ 1000) (hu : S.u ≤ b.size) (hn : n ≤ 1000) :
    Calls Tryd.prog 65 #[.pointer (some ⟨g, 0, none⟩), .int .i64 n] w fun e w' =>
      e = .returned (.string ⟨(nextP b.data.toList S n).1.toArray⟩) ∧ RdAt w' g b (nextP b.data.toList S n).2 F ∧ Tch [g] w w' := by
  have hbl : b.data.toList.length = b.size := by simp
  have c0 := h.c0
  have c1 := h.c1
  have c2 := h.c2
  have z1 := h.z 1
  by_cases hlt : b.size < S.u + n
  · obtain ⟨hne, he⟩ := failP_7 b.data.toList S n (by rw [hbl]; exact hlt)
    rw [he]
    have hfa := fun W hW => fail_any g b S F 7 W hW
    have hd : decide ((b.size : Int) - (S.u : Int) < (n : Int)) = true := by simp; omega
    have hnb : ((failP S 7).fl != 0) = true := by simpa using hne
    have HFA := Hid.mk hfa
    have H := Hid.mk h
    clear h hfa hbl he hne
    go_enter Tryd.func65, Tryd.ntmps65
    go_wp2_with fail
    go_quiet (fail)
    have hB : Below w.heap.size w (w.drewN nq) := ⟨rfl, rfl, rfl, Nat.le_refl _, fun _ _ => rfl⟩
    go_wp2_with fail
    refine (HFA.out _ (H.out.kept hB)).mono ?_
    rintro e w1 ⟨rfl, h1, t1⟩
    have t2 : Tch [g] w w1 := (Tch.of hB).trans t1
    have k2 := h1.c2
    have H1 := Hid.mk h1
    clear hB t1 h1 c0 c1 c2 z1 H HFA
    go_wp2_with fail
    go_ret
    exact ⟨rfl, H1.out, t2⟩
  · have hle : (S.u : Int) + (n : Int) ≤ (b.size : Int) := by omega
    have hd : decide ((b.size : Int) - (S.u : Int) < (n : Int)) = false := by simp; omega
    unfold nextP
    rw [hbl]
    by_cases hf : S.fl = 0
    · rw [if_pos hf, if_neg hlt]
      rw [hf] at c2
      have H := Hid.mk h
      have hx : (b.extract S.u (S.u + n)).data.toList = (b.data.toList.drop S.u).take n := extract_list b S.u n
      have hsl : ∀ W, (Instr.slice 9 (.string b) (some (.int .i64 (S.u : Int))) (some (.int .i64 ((S.u : Int) + (n : Int)))) none).run Tryd.prog W = .ok (.string ⟨((b.data.toList.drop S.u).take n).toArray⟩) W := by
        intro W
        rw [run_slice_string W _ b _ _ _ _ Tryd.underlying9 (by omega) (by omega) (by omega)]
        have e1 : ((S.u : Int)).toNat = S.u := by omega
        have e2 : ((S.u : Int) + (n : Int)).toNat = S.u + n := by omega
        rw [e1, e2, ba_eq hx]
      generalize ByteArray.mk ((b.data.toList.drop S.u).take n).toArray = T at *
      clear hbl hx h
      go_enter Tryd.func65, Tryd.ntmps65
      go_wp2_with fail
      go_quiet (fail)
      obtain ⟨w1, hw1⟩ : ∃ w1, w1 = w.drewN nq := ⟨_, rfl⟩
      have hB : Below w.heap.size w w1 := by rw [hw1]; exact ⟨rfl, rfl, rfl, Nat.le_refl _, fun _ _ => rfl⟩
      rw [← hw1]
      have h1 := H.out.kept hB
      have d0 := h1.c0
      have d1 := h1.c1
      have d2 := h1.c2
      rw [hf] at d2
      have y1 := h1.z 1
      have hs := h1.setU (S.u + n)
      rw [show ((S.u + n : Nat) : Int) = (S.u : Int) + (n : Int) by omega] at hs
      have ht : Tch [g] w (w1.setCell ⟨g, 1, none⟩ (.int .i64 ((S.u : Int) + (n : Int)))) := (Tch.of hB).setK (by simp) _ _
      have s0 := hs.c0
      have s1 := hs.c1
      rw [show ((S.u + n : Nat) : Int) = (S.u : Int) + (n : Int) by omega] at s1
      have HSS := Hid.mk hs
      have HT := Hid.mk ht
      clear hw1 hB h1 c0 c1 c2 z1 hs ht
      go_wp2_with fail
      go_quiet (fail)
      have hB2 : Below (w1.setCell ⟨g, 1, none⟩ (.int .i64 ((S.u : Int) + (n : Int)))).heap.size (w1.setCell ⟨g, 1, none⟩ (.int .i64 ((S.u : Int) + (n : Int)))) ((w1.setCell ⟨g, 1, none⟩ (.int .i64 ((S.u : Int) + (n : Int)))).drewN nq) := ⟨rfl, rfl, rfl, Nat.le_refl _, fun _ _ => rfl⟩
      go_wp2_with fail
      go_ret
      exact ⟨rfl, by rw [← hf]; exact HSS.out.kept hB2, HT.out.trans (Tch.of hB2)⟩
    · rw [if_neg hf]
      have hnb : (S.fl != 0) = true := by simpa using hf
      have H := Hid.mk h
      clear hbl h
      go_enter Tryd.func65, Tryd.ntmps65
      go_wp2_with fail
      go_quiet (fail)
      have hB : Below w.heap.size w (w.drewN nq) := ⟨rfl, rfl, rfl, Nat.le_refl _, fun _ _ => rfl⟩
      go_wp2_with fail
      go_ret
      exact ⟨rfl, H.out.kept hB, Tch.of hB⟩
end Bw
end Go.Proofs.YthdhhmflfdbkhaaDoor
