/- What omnibusbig's low and of answer of numbers from 0 on. -/
import Derived.Test.YtopoogdoepdedaaDoorBigLsh
namespace Go.Proofs.YtopoogdoepdedaaDoor
open Go.ChangeShapes Go.WideShapes Go.ChangeAt Go.RowKit
namespace Ww
open Wm Bm

theorem owns_of_heap {w : World} {base g m : Nat} {zs : List Nat} (hh : w.heap[g]? = some (.cells (cellsW zs).toArray 99 (0, 0))) (hl : zs.length = m) (hb : base ≤ g) (hm : m ≤ maxLen) :
    w.ownsRow base 99 1 (.slice (some ⟨g, 0, none⟩) m m) m (cellsW zs) := by
  have hc : (cellsW zs).length = m := by rw [cellsW, List.length_map, hl]
  exact ⟨by rw [hc, Nat.mul_one], Or.inr ⟨g, m, (cellsW zs).toArray, rfl, hb, hh, Nat.le_refl _, hm, by rw [List.size_toArray, hc, Nat.mul_one], by rw [Nat.mul_one]; show (cellsW zs).take m = cellsW zs; exact List.take_of_length_le (by omega)⟩⟩
theorem splice_low (xs : List Nat) (m : Nat) : splice (List.replicate m (Value.int .u32 0)) 0 (cellsW xs) = cellsW (xs ++ List.replicate (m - xs.length) 0) := by
  simp [splice, cellsW, List.drop_replicate]

theorem heap_of_made {w : World} {base g m : Nat} (h : w.ownsRow base 99 1 (.slice (some ⟨g, 0, none⟩) m m) m (madeCells (Value.int .u32 0).cells (m * 1)).toList) :
    w.heap[g]? = some (.cells (List.replicate m (Value.int .u32 0)).toArray 99 (0, 0)) := by
  rw [Nat.mul_one, show (Value.int .u32 0).cells = #[Value.int .u32 0] from rfl, toList_madeCells_one] at h
  obtain ⟨hl, h'⟩ := h
  rcases h' with ⟨h0, _⟩ | ⟨g', cap, cur, hv, hb, hh, h1, h2, h3, h4⟩
  · cases h0
  · cases hv
    rw [hh]
    rw [Nat.mul_one] at h3 h4
    have e : cur.toList = List.replicate m (Value.int .u32 0) := by
      rw [← h4]; exact (List.take_of_length_le (by simp; omega)).symm
    rw [← e]
theorem copy_len {X : List Value} {nA m : Nat} (h : X.length = nA) (hm : nA ≤ m) : X.length = Nat.min nA m := by rw [h]; exact (Nat.min_eq_left hm).symm
theorem copy_fit {X : List Value} {nA m : Nat} (h : X.length = nA) (hm : nA ≤ m) : 0 + X.length ≤ (List.replicate m (Value.int .u32 0)).length := by rw [List.length_replicate]; omega
theorem copy_src {X : List Value} {nA : Nat} {xs : List Nat} {a : Option Addr} {W : World} (hna : a = none → xs.length = 0) (hl : nA = xs.length) (hX : X.length = nA) (h0 : 0 < X.length)
    (hc : ∀ ad, a = some ad → ∀ j v, X[j]? = some v → W.cell? (ad.add j) = some v) : ∃ ad, a = some ad ∧ ∀ j v, X[j]? = some v → W.cell? (ad.add j) = some v := by
  cases a with
  | none => have := hna rfl; omega
  | some ad => exact ⟨ad, rfl, hc ad rfl⟩

set_option maxHeartbeats 4000000 in
theorem low_any (g m : Nat) (va : Value) (xs : List Nat) (w : World) (hh : w.heap[g]? = some (.cells #[.bool false, va] 58 (0, 0))) (hW : IsW w va xs) (hm : xs.length ≤ m) (hm2 : m ≤ 10000) :
    Calls Tryd.prog 56 #[.pointer (some ⟨g, 0, none⟩), .int .i64 m] w fun e w' => e = .returned (.slice (some ⟨w.heap.size, 0, none⟩) m m) ∧
      w'.ownsRow w.heap.size 99 1 (.slice (some ⟨w.heap.size, 0, none⟩) m m) m (cellsW (xs ++ List.replicate (m - xs.length) 0)) ∧ Below w.heap.size w w' := by
  obtain ⟨i0, hi, hz0, hz1, hz2⟩ := info_parts info_u32
  obtain ⟨a, ca, rfl, hca, hma, hna, hcea, hoa⟩ := hW
  have hc0 := cell_of_row w g 0 _ _ _ hh
  have hc1 := cell_of_row w g 1 _ _ _ hh
  simp only [List.getElem?_toArray, List.getElem?_cons_zero, List.getElem?_cons_succ] at hc0 hc1
  have HCE := Hid.mk hcea
  have HNA := Hid.mk hna
  have HC0 := Hid.mk hc0
  obtain ⟨nA, hnA⟩ : ∃ n, n = xs.length := ⟨_, rfl⟩
  obtain ⟨X, hX⟩ : ∃ X, X = cellsW xs := ⟨_, rfl⟩
  have hXl : X.length = nA := by rw [hX, cellsW, List.length_map, hnA]
  have hX1 : ∀ v ∈ X, v.oneCell' = true := by
    rw [hX]; intro v hv
    rw [cellsW, List.mem_map] at hv
    obtain ⟨x, _, rfl⟩ := hv
    rfl
  have hXc : ∀ (ad : Addr), a = some ad → ∀ W, Below w.heap.size w W → ∀ j v, X[j]? = some v → W.cell? (ad.add j) = some v := by
    intro ad had W hb j v hjv
    have hj : j < xs.length := by
      rcases Nat.lt_or_ge j X.length with h | h
      · omega
      · rw [List.getElem?_eq_none h] at hjv; cases hjv
    rw [hX, cellsW_get xs j hj] at hjv
    cases hjv
    exact Bw.cell_kept hb (HCE.out ad had j hj)
  have hsp : splice (List.replicate m (Value.int .u32 0)) 0 X = cellsW (xs ++ List.replicate (m - xs.length) 0) := by rw [hX]; exact splice_low xs m
  have hlen2 : (xs ++ List.replicate (m - xs.length) 0).length = m := by rw [List.length_append, List.length_replicate]; omega
  obtain ⟨R, hR⟩ : ∃ R, R = xs ++ List.replicate (m - xs.length) 0 := ⟨_, rfl⟩
  rw [← hR] at hsp hlen2 ⊢
  rw [← hnA] at hca hm hc1
  have HLA := Hid.mk hnA
  have HXL := Hid.mk hXl
  have HX1 := Hid.mk hX1
  have HXC := Hid.mk hXc
  have HSP := Hid.mk hsp
  have HL2 := Hid.mk hlen2
  have HM := Hid.mk hm
  have HC1 := Hid.mk hc1
  clear hh hcea hna hoa hca hma hc0 hc1 hXl hX1 hXc hsp hX hlen2 hnA hR hm
  go_enter Tryd.func56, Tryd.ntmps56
  set_option maxRecDepth 100000 in
  go_wp2_with (first
    | (at_make; refine wpList_make_full _ rfl (.tmp 8) (.tmp 8) 56 rfl w.heap.size 99 i0 (.int .u32 0) 1 Tryd.underlying56 hi hz0 hz1 .i64 .i64 _ _ m rfl rfl (by omega) (by omega) (by rw [hz2]; omega) (by unfold maxLen; omega) (Nat.le_refl _) ?_; intro w2 hown hgrow
       have hb2 : Below w.heap.size w w2 := Below.grown (Below.refl _ _) hgrow (Nat.le_refl _) (fun q hq => by cases hq)
       have hc0 := Bw.cell_kept hb2 HC0.out
       have hc1 := Bw.cell_kept hb2 HC1.out
       have hg2 := heap_of_made hown
       have HG2 := Hid.mk hg2
       clear hown hgrow hg2)
    | (with_reducible show wpList _ _ _ (Oper.mk (some 15) _ _ _ _ _ :: _) _ _
       refine wpList_copy_splice rfl (.tmp 10) (.tmp 14) 56 56 rfl 99 Tryd.underlying56 (by rw [hi]; simp [hz1]) (some ⟨w.heap.size, 0, none⟩) a m m nA ca rfl rfl w.heap.size 0 (List.replicate m (Value.int .u32 0)) 99 HG2.out X (copy_len HXL.out HM.out) (fun h0 => ⟨rfl, copy_src (fun ha => HNA.out ha) HLA.out HXL.out h0 (fun ad had => HXC.out ad had w2 hb2)⟩) (copy_fit HXL.out HM.out) HX1.out w.heap.size w hb2 (Nat.le_refl _) ?_; intro w3 HG3 hb3
       have hc0' := Bw.cell_kept hb3 HC0.out))
  go_ret
  exact ⟨rfl, owns_of_heap (by rw [← HSP.out]; exact HG3.out) HL2.out (Nat.le_refl _) (by unfold maxLen; omega), hb3⟩

set_option maxHeartbeats 4000000 in
theorem of_any (gz : Nat) (va : Value) (zs : List Nat) (w : World) (hz : isStruct w gz) (hW : IsW w va zs) (h0 : 0 < zs.length) (hl : zs.length ≤ 10000) (htop : zs.getD (zs.length - 1) 0 < 2147483648) :
    Calls Tryd.prog 57 #[.pointer (some ⟨gz, 0, none⟩), va] w fun e w' => e = .returned (.pointer (some ⟨gz, 0, none⟩)) ∧ IsInt w' gz (valW zs) ∧ Touch gz w w' := by
  have HW := Hid.mk hW
  have HZ := Hid.mk hz
  obtain ⟨a, ca, rfl, hca, hma, hna, hcea, hoa⟩ := hW
  cases a with
  | none => exact absurd (hna rfl) (by omega)
  | some p =>
    have hcx := hcea p rfl (zs.length - 1) (by omega)
    obtain ⟨top, htE⟩ : ∃ top, top = zs.getD (zs.length - 1) 0 := ⟨_, rfl⟩
    rw [← htE] at hcx htop
    have htr := fun W (hWW : IsW W (.slice (some p) zs.length ca) zs) => trim_any (.slice (some p) zs.length ca) zs W hWW (by omega)
    have HTR := Hid.mk htr
    obtain ⟨nA, hnA⟩ : ∃ n, n = zs.length := ⟨_, rfl⟩
    rw [← hnA] at HW HTR hcx h0 hl ⊢
    have h1 : (1 : Int) ≤ (nA : Int) := by omega
    have hidx : ((nA : Int) - 1).toNat = nA - 1 := by omega
    have htop0 : (top : Int) / 2147483648 = 0 := by omega
    have hti : (top : Int) ≤ 2147483647 := by omega
    clear hca hma hna hcea hoa hz htr htE hnA htop
    go_enter Tryd.func57, Tryd.ntmps57
    go_wp2_with fail
    refine (HTR.out w HW.out).mono ?_
    rintro e w1 ⟨v1, ys, rfl, hy, hyv, hyt, hyl, hw1⟩
    subst hw1
    have hgv := give_any gz v1 ys w1 HZ.out hy hyt
    rw [hyv] at hgv
    have HG := Hid.mk hgv
    clear hgv hy hyv hyt
    go_wp2_with fail
    refine HG.out.mono ?_
    rintro e w2 ⟨rfl, hI, ht⟩
    have HI := Hid.mk hI
    clear hI
    go_wp2_with fail
    go_ret
    exact ⟨rfl, HI.out, ht⟩
end Ww
end Go.Proofs.YtopoogdoepdedaaDoor
