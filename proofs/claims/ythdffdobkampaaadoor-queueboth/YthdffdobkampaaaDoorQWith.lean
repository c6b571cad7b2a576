/- What queue.with answers. -/
import Derived.Test.YthdffdobkampaaaDoorQLine
import Derived.Test.YthdffdobkampaaaDoorQMath
namespace Go.Proofs.YthdffdobkampaaaDoor
open Go.ChangeShapes Go.WideShapes Go.ChangeAt Go.RowKit
namespace Bw
open Bm Cm
/-- what stood from k on up to n has moved by one -/
def Shf (A : List Ent) (n k : Nat) (B : List Ent) : Prop := B.length = A.length ∧ ∀ j : Nat, B[j]? = A[if j ≤ k then j else if j ≤ n then j - 1 else j]?
theorem Shf.start (A : List Ent) (n : Nat) : Shf A n n A := ⟨rfl, fun j => by
  have : (if j ≤ n then j else if j ≤ n then j - 1 else j) = j := by split <;> simp_all
  rw [this]⟩
theorem Shf.next {A B : List Ent} {n k : Nat} (h : Shf A n k B) (h0 : 0 < k) (hk : k ≤ n) (hn : n < A.length) : Shf A n (k - 1) (B.set k (B[k - 1]'(by have := h.1; omega))) := by
  obtain ⟨h1, h2⟩ := h
  refine ⟨by rw [List.length_set]; exact h1, fun j => ?_⟩
  rw [List.getElem?_set]
  by_cases e : k = j
  · subst e
    rw [if_pos rfl, if_pos (by omega), if_neg (by omega), if_pos (by omega)]
    have := h2 (k - 1)
    rw [if_pos (by omega)] at this
    rw [← this, List.getElem?_eq_getElem (by omega)]
  · rw [if_neg e, h2 j]
    by_cases e1 : j ≤ k
    · rw [if_pos e1, if_pos (show j ≤ k - 1 by omega)]
    · rw [if_neg e1, if_neg (show ¬ j ≤ k - 1 by omega)]
theorem Shf.stop {A B : List Ent} {n k : Nat} (h : Shf A n k B) (hk : k ≤ n) (hn : n < A.length) (x : Ent) : B.set k x = insAt (A.take n) k x ++ A.drop (n + 1) := by
  obtain ⟨h1, h2⟩ := h
  have htk : (A.take n).take k = A.take k := by rw [List.take_take, Nat.min_eq_left hk]
  unfold insAt
  rw [htk]
  apply List.ext_getElem?
  intro j
  rw [List.getElem?_set]
  have hl : (A.take k).length = k := by rw [List.length_take]; omega
  have hl2 : ((A.take n).drop k).length = n - k := by rw [List.length_drop, List.length_take]; omega
  by_cases e : k = j
  · subst e
    rw [if_pos rfl, if_pos (by omega), List.append_assoc, List.getElem?_append_right (by omega), hl, Nat.sub_self]
    rfl
  · rw [if_neg e, h2 j]
    by_cases e1 : j < k
    · rw [if_pos (by omega), List.append_assoc, List.getElem?_append_left (by omega), List.getElem?_take_of_lt e1]
    · rw [if_neg (by omega)]
      by_cases e2 : j ≤ n
      · rw [if_pos e2, List.append_assoc, List.getElem?_append_right (by omega), hl, List.cons_append, List.getElem?_cons, if_neg (by omega), List.getElem?_append_left (by omega), List.getElem?_drop, List.getElem?_take_of_lt (by omega)]
        congr 1; omega
      · rw [if_neg e2, List.getElem?_append_right (by simp only [List.length_append, List.length_cons, hl, hl2]; omega), List.getElem?_drop]
        congr 1
        simp only [List.length_append, List.length_cons, hl, hl2]
        omega
def atA (A : List Ent) (n : Nat) (x : Ent) : Nat := atE x.name (A.map (·.name)) n
theorem ent_name (B : List Ent) (k : Nat) (h : k < B.length) : (B.map (·.name)).getD k [] = B[k].name := by simp [List.getD, h]
def withA (A : List Ent) (n : Nat) (x : Ent) : List Ent := insAt (A.take n) (atA A n x) x ++ A.drop (n + 1)
/-- the block of an entry -/
def EnAt (w : World) (b : Nat) (x : Ent) : Prop := w.heap[b]? = some (.cells x.cells.toArray 52 (0, 0))
theorem EnAt.lt {w : World} {b : Nat} {x : Ent} (h : EnAt w b x) : b < w.heap.size := (Array.getElem?_eq_some_iff.1 h).1
theorem EnAt.kept {w w' : World} {b : Nat} {x : Ent} (h : EnAt w b x) (hb : Below w.heap.size w w') : EnAt w' b x := by unfold EnAt; rw [hb.block b h.lt]; exact h
theorem EnAt.tch {gs : List Nat} {w w' : World} {b : Nat} {x : Ent} (h : EnAt w b x) (ht : Tch gs w w') (hb : b ∉ gs) : EnAt w' b x := by unfold EnAt; rw [ht.block b h.lt hb]; exact h
theorem EnAt.name {w : World} {b : Nat} {x : Ent} (h : EnAt w b x) : w.cell? ⟨b, 0, none⟩ = some (.string ⟨x.name.toArray⟩) := by rw [cell_of_row w b 0 _ _ _ h]; rfl
theorem EnAt.new (w : World) (x : Ent) : EnAt (w.alloc (.cells x.cells.toArray 52)) w.heap.size x := heap_alloc_new w _
section
variable {ops : Array Oper} {rest : List Oper} {dst : Option Tmp} {ty : TypeId} {pos : String} {aft : Array Edge} {a : Act} {w : World} {Q : Exit → Act → World → Prop}
/-- an entry of its own is read -/
theorem wpl_load_own (x : Operand) (b : Nat) (e : Ent) (hx : a.eval x = .pointer (some ⟨b, 0, none⟩)) (hL : EnAt w b e)
    (h : wpList Tryd.prog ops Q rest (a.put dst (.agg e.cells.toArray)) w) :
    wpList Tryd.prog ops Q (Oper.mk dst (.load 52 x) ty pos aft none :: rest) a w :=
  wpList_load_mid rfl 52 x rfl b 0 hx e.cells _ (fun j v hv => by
    rw [Nat.zero_add, cell_of_row w b _ _ _ _ hL, List.getElem?_toArray]; exact hv) Tryd.underlying52 rfl ent_info h
end
set_option maxHeartbeats 4000000 in
set_option maxRecDepth 100000 in
theorem with_any (A : List Ent) (n : Nat) (x : Ent) (w : World) (hA : A.length = 32) (hn : n < 32) :
    Calls Tryd.prog 38 #[.agg (lnC A n).toArray, .agg x.cells.toArray] w fun e w' => e = .returned (.agg (lnC (withA A n x) ((n + 1 : Nat) : Int)).toArray) ∧ Below w.heap.size w w' := by
  have hL0 := LnAt.new w A n hA
  have hB0 : Below w.heap.size w (w.alloc (lnO A n)) := (Below.refl _ _).alloc (Nat.le_refl _) _
  have hs0 : (w.alloc (lnO A n)).heap.size = w.heap.size + 1 := by simp
  have hE1 := EnAt.new (w.alloc (lnO A n)) x
  have hB1 : Below (w.alloc (lnO A n)).heap.size (w.alloc (lnO A n)) ((w.alloc (lnO A n)).alloc (.cells x.cells.toArray 52)) := (Below.refl _ _).alloc (Nat.le_refl _) _
  have hs1 : ((w.alloc (lnO A n)).alloc (.cells x.cells.toArray 52)).heap.size = w.heap.size + 2 := by simp
  have hL2 := LnAt.new ((w.alloc (lnO A n)).alloc (.cells x.cells.toArray 52)) (List.replicate 32 zE) 0 (by simp)
  have hB2 : Below ((w.alloc (lnO A n)).alloc (.cells x.cells.toArray 52)).heap.size ((w.alloc (lnO A n)).alloc (.cells x.cells.toArray 52)) (((w.alloc (lnO A n)).alloc (.cells x.cells.toArray 52)).alloc (lnO (List.replicate 32 zE) 0)) := (Below.refl _ _).alloc (Nat.le_refl _) _
  have k0 := (hL0.kept hB1).kept hB2
  have k1 := hE1.kept hB2
  have kB := bl2 (bl2 hB0 hB1) hB2
  rw [hs0] at k1
  rw [hs1] at hL2
  unfold lnO at k0 k1 hL2 kB
  rw [← zero_line] at k0 k1 hL2 kB
  have HC := Hid.mk (show (lnC A n).toArray = (lnC A n).toArray from rfl)
  have c224 := k0.size
  have K0 := Hid.mk k0
  have K1 := Hid.mk k1
  have K2 := Hid.mk hL2
  have KB := Hid.mk kB
  clear hL0 hB0 hs0 hE1 hB1 hs1 hL2 hB2 k0 k1 kB HC
  generalize hCe : (lnC A n).toArray = C at *
  go_enter Tryd.func38, Tryd.ntmps38
  go_wp2_with fail
  go_loopw [5] (fun i wr => ∃ (k : Nat) (B : List Ent), k ≤ n ∧ i = .int .i64 k ∧ Hid (Shf A n k B) ∧ Hid (atA A n x = atA A k x) ∧ Hid (LnAt wr w.heap.size B n) ∧ Hid (EnAt wr (w.heap.size + 1) x) ∧ Hid (LnAt wr (w.heap.size + 2) (List.replicate 32 zE) 0) ∧ Hid (Below w.heap.size w wr)) (fun i _ => (intOf i).toNat)
  case atStart => exact ⟨n, A, Nat.le_refl _, rfl, Hid.mk (Shf.start A n), Hid.mk rfl, K0, K1, K2, KB⟩
  case round =>
    obtain ⟨k, B, hk, rfl, HS, HT, HL, HE, HR, HB⟩ := hrel
    have hkL : k < B.length := by rw [HS.out.1, hA]; omega
    have hn1 : (n : Int) + 1 ≤ 32 := by omega
    by_cases h0 : 0 < k
    · have hkB : k - 1 < B.length := by omega
      have n1 := HE.out.name
      have n2 := HL.out.cell (k - 1) 0 (by omega) (by omega)
      have e0 : (B[k - 1]'hkB).cells[0]? = some (.string ⟨(B[k - 1]'hkB).name.toArray⟩) := rfl
      rw [e0, Nat.add_zero] at n2
      have hnm : (A.map (·.name)).getD (k - 1) [] = (B[k - 1]'hkB).name := by
        have h2 := HS.out.2 (k - 1)
        rw [if_pos (by omega)] at h2
        rw [ent_name A (k - 1) (by omega)]
        rw [List.getElem?_eq_getElem hkB, List.getElem?_eq_getElem (show k - 1 < A.length by omega)] at h2
        rw [Option.some.inj h2]
      have hat : atA A k x = if Op.bytesLess x.name ((A.map (·.name)).getD (k - 1) []) = true then atA A (k - 1) x else k := by
        obtain ⟨q, rfl⟩ : ∃ q, k = q + 1 := ⟨k - 1, by omega⟩
        rfl
      rw [hnm] at hat
      have HSN := Hid.mk (HS.out.next h0 hk (by omega))
      have HEN := Hid.mk (show (B[k - 1]'hkB) = (B[k - 1]'hkB) from rfl)
      have HHA := Hid.mk hat
      have hk1 : ((k : Int) - 1) = ((k - 1 : Nat) : Int) := by omega
      have hd0 : decide ((0 : Int) < (k : Int)) = true := by simp; omega
      clear e0 hnm hat HEN
      by_cases hl : Op.bytesLess x.name (B[k - 1]'hkB).name = true
      · have HAT := Hid.mk (HT.out.trans (HHA.out.trans (if_pos hl)))
        go_wp2_with fail
        go_quiet (fail)
        have HLq := Hid.mk (HL.out.drewN nq)
        have HEq := Hid.mk (show EnAt (wr.drewN nq) (w.heap.size + 1) x from HE.out)
        have HRq := Hid.mk (HR.out.drewN nq)
        have HBq := Hid.mk (HB.out.trans (show Below w.heap.size wr (wr.drewN nq) from ⟨rfl, rfl, rfl, Nat.le_refl _, fun _ _ => rfl⟩))
        go_wp2_with (first | ((with_reducible_and_instances refine wpl_load_ent (.tmp 25) w.heap.size ((k - 1) * 7) (k - 1) B n ?_ HLq.out rfl hkB ?_); rfl) | ((with_reducible_and_instances refine wpl_store_ent (.tmp 28) (.tmp 26) w.heap.size (k * 7) k B n (B[k - 1]'hkB) ?_ ?_ HLq.out rfl hkL ?_); rfl; rfl; intro w5 hL5 hT5))
        go_roundw
        case rel => exact ⟨k - 1, _, by omega, by go_num, HSN, HAT, Hid.mk hL5, Hid.mk (HEq.out.tch hT5 (by simp)), Hid.mk (HRq.out.tch hT5 (by simp)), Hid.mk (Tch.below HBq.out hT5 (by simp) (Nat.le_refl _))⟩
        case measure => simp [intOf]; omega
      · have HAT := Hid.mk (HT.out.trans (HHA.out.trans (if_neg hl)))
        go_wp2_with fail
        go_quiet (fail)
        replace HL := Hid.mk (HL.out.drewN nq)
        replace HE := Hid.mk (show EnAt (wr.drewN nq) (w.heap.size + 1) x from HE.out)
        replace HR := Hid.mk (HR.out.drewN nq)
        replace HB := Hid.mk (HB.out.trans (show Below w.heap.size wr (wr.drewN nq) from ⟨rfl, rfl, rfl, Nat.le_refl _, fun _ _ => rfl⟩))
        go_wp2_with (first | ((with_reducible_and_instances refine wpl_load_own (.tmp 3) (w.heap.size + 1) x ?_ HE.out ?_); rfl) | ((with_reducible_and_instances refine wpl_store_ent (.tmp 34) (.tmp 32) w.heap.size (k * 7) k B n x ?_ ?_ HL.out rfl hkL ?_); rfl; rfl; intro w5 hL5 hT5; have c5 := hL5.size; have z5 := hL5.frozen 224; have HL6 := Hid.mk (hL5.setSize ((n : Int) + 1)); have HT6 := Hid.mk (hT5.setK (g := w.heap.size) (by simp) 224 (.int .i64 ((n : Int) + 1))); clear hL5 hT5) | ((with_reducible_and_instances refine wpl_load_line (.tmp 2) w.heap.size _ _ ?_ HL6.out ?_); rfl) | ((with_reducible_and_instances refine wpl_store_line (.tmp 4) (.tmp 39) (w.heap.size + 2) (List.replicate 32 zE) (B.set k x) 0 ((n : Int) + 1) ?_ ?_ (HR.out.tch HT6.out (by simp)) HL6.out.len ?_); rfl; rfl; intro w7 hL7 hT7))
        have hlast : (lnC (B.set k x) ((n : Int) + 1)) = lnC (withA A n x) ((n + 1 : Nat) : Int) := by
          rw [HS.out.stop hk (by omega) x]
          unfold withA
          rw [HAT.out]; rfl
        have hBe : Below w.heap.size w w7 := Tch.below (Tch.below HB.out HT6.out (by simp) (Nat.le_refl _)) hT7 (by simp) (Nat.le_refl _)
        refine bodyPost_ret (results_cell_row rfl _ _ (w.heap.size + 2) _ _ _ _ rfl hL7.row Tryd.underlying55 rfl (by rw [line_info, lnC_arr _ _ hL7.len])) rfl ?_
        exact ⟨by rw [hlast], hBe⟩
    · obtain rfl : k = 0 := by omega
      have HAT := Hid.mk (HT.out.trans (show atA A 0 x = 0 from rfl))
      go_wp2_with fail
      go_quiet (fail)
      replace HL := Hid.mk (HL.out.drewN nq)
      replace HE := Hid.mk (show EnAt (wr.drewN nq) (w.heap.size + 1) x from HE.out)
      replace HR := Hid.mk (HR.out.drewN nq)
      replace HB := Hid.mk (HB.out.trans (show Below w.heap.size wr (wr.drewN nq) from ⟨rfl, rfl, rfl, Nat.le_refl _, fun _ _ => rfl⟩))
      go_wp2_with (first | ((with_reducible_and_instances refine wpl_load_own (.tmp 3) (w.heap.size + 1) x ?_ HE.out ?_); rfl) | ((with_reducible_and_instances refine wpl_store_ent (.tmp 34) (.tmp 32) w.heap.size (0 * 7) 0 B n x ?_ ?_ HL.out rfl hkL ?_); rfl; rfl; intro w5 hL5 hT5; have c5 := hL5.size; have z5 := hL5.frozen 224; have HL6 := Hid.mk (hL5.setSize ((n : Int) + 1)); have HT6 := Hid.mk (hT5.setK (g := w.heap.size) (by simp) 224 (.int .i64 ((n : Int) + 1))); clear hL5 hT5) | ((with_reducible_and_instances refine wpl_load_line (.tmp 2) w.heap.size _ _ ?_ HL6.out ?_); rfl) | ((with_reducible_and_instances refine wpl_store_line (.tmp 4) (.tmp 39) (w.heap.size + 2) (List.replicate 32 zE) (B.set 0 x) 0 ((n : Int) + 1) ?_ ?_ (HR.out.tch HT6.out (by simp)) HL6.out.len ?_); rfl; rfl; intro w7 hL7 hT7))
      have hlast : (lnC (B.set 0 x) ((n : Int) + 1)) = lnC (withA A n x) ((n + 1 : Nat) : Int) := by
        rw [HS.out.stop hk (by omega) x]
        unfold withA
        rw [HAT.out]; rfl
      have hBe : Below w.heap.size w w7 := Tch.below (Tch.below HB.out HT6.out (by simp) (Nat.le_refl _)) hT7 (by simp) (Nat.le_refl _)
      refine bodyPost_ret (results_cell_row rfl _ _ (w.heap.size + 2) _ _ _ _ rfl hL7.row Tryd.underlying55 rfl (by rw [line_info, lnC_arr _ _ hL7.len])) rfl ?_
      exact ⟨by rw [hlast], hBe⟩
end Bw
end Go.Proofs.YthdffdobkampaaaDoor
