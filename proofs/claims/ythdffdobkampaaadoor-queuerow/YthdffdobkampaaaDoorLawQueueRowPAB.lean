/- Joined out of our texts: QWith, RefOwn, AppTwo, FrRow, QFrames, FrBit, BitsRow, FrName, FrNamed, QLineOf. -/
import Derived.Test.YthdffdobkampaaaDoorLawQueueRowPAA
import Derived.Lib.QuietBelow
import Derived.WalkKit
import Derived.OwnWalk
import Derived.OneCell
import Derived.Laws.AppendOwn
import Derived.Lib.SliceRun
import Derived.Test.YthdffdobkampaaaDoorLawQueueRowRAB
import Derived.Laws.ResultCell
/- What queue.with answers. -/
namespace Go.Proofs.YthdffdobkampaaaDoor
open Go.ChangeShapes Go.WideShapes Go.ChangeAt Go.RowKit
namespace Bw
open Bm Cm
/-- what stood from k on up to n has moved by one -/
def Shf (A : List Ent) (n k : Nat) (B : List Ent) : Prop := B.length = A.length ∧ ∀ j : Nat, B[j]? = A[if j ≤ k then j else if j ≤ n then j - 1 else j]?
theorem Shf.start (A : List Ent) (n : Nat) : Shf A n n A := ⟨rfl, fun j => by
  have : (if j ≤ n then j else if j ≤ n then j - 1 else j) = j := by split <;> simp_all
  rw [this]⟩
theorem Shf.next {A B : List Ent} {n k : Nat} (h : Shf A n k B) (h0 : 0 < k) (hk : k ≤ n) (hn : n < A.length) : Shf A n (k - 1) (B.set k (B[k - 1]'(by have := h.1; omega))) := by
  obtain ⟨h1, h2⟩ := h
  refine ⟨by rw [List.length_set]; exact h1, fun j => ?_⟩
  rw [List.getElem?_set]
  by_cases e : k = j
  · subst e
    rw [if_pos rfl, if_pos (by omega), if_neg (by omega), if_pos (by omega)]
    have := h2 (k - 1)
    rw [if_pos (by omega)] at this
    rw [← this, List.getElem?_eq_getElem (by omega)]
  · rw [if_neg e, h2 j]
    by_cases e1 : j ≤ k
    · rw [if_pos e1, if_pos (show j ≤ k - 1 by omega)]
    · rw [if_neg e1, if_neg (show ¬ j ≤ k - 1 by omega)]
theorem Shf.stop {A B : List Ent} {n k : Nat} (h : Shf A n k B) (hk : k ≤ n) (hn : n < A.length) (x : Ent) : B.set k x = insAt (A.take n) k x ++ A.drop (n + 1) := by
  obtain ⟨h1, h2⟩ := h
  have htk : (A.take n).take k = A.take k := by rw [List.take_take, Nat.min_eq_left hk]
  unfold insAt
  rw [htk]
  apply List.ext_getElem?
  intro j
  rw [List.getElem?_set]
  have hl : (A.take k).length = k := by rw [List.length_take]; omega
  have hl2 : ((A.take n).drop k).length = n - k := by rw [List.length_drop, List.length_take]; omega
  by_cases e : k = j
  · subst e
    rw [if_pos rfl, if_pos (by omega), List.append_assoc, List.getElem?_append_right (by omega), hl, Nat.sub_self]
    rfl
  · rw [if_neg e, h2 j]
    by_cases e1 : j < k
    · rw [if_pos (by omega), List.append_assoc, List.getElem?_append_left (by omega), List.getElem?_take_of_lt e1]
    · rw [if_neg (by omega)]
      by_cases e2 : j ≤ n
      · rw [if_pos e2, List.append_assoc, List.getElem?_append_right (by omega), hl, List.cons_append, List.getElem?_cons, if_neg (by omega), List.getElem?_append_left (by omega), List.getElem?_drop, List.getElem?_take_of_lt (by omega)]
        congr 1; omega
      · rw [if_neg e2, List.getElem?_append_right (by simp only [List.length_append, List.length_cons, hl, hl2]; omega), List.getElem?_drop]
        congr 1
        simp only [List.length_append, List.length_cons, hl, hl2]
        omega
def atA (A : List Ent) (n : Nat) (x : Ent) : Nat := atE x.name (A.map (·.name)) n
theorem ent_name (B : List Ent) (k : Nat) (h : k < B.length) : (B.map (·.name)).getD k [] = B[k].name := by simp [List.getD, h]
def withA (A : List Ent) (n : Nat) (x : Ent) : List Ent := insAt (A.take n) (atA A n x) x ++ A.drop (n + 1)
/-- the block of an entry -/
def EnAt (w : World) (b : Nat) (x : Ent) : Prop := w.heap[b]? = some (.cells x.cells.toArray 52 (0, 0))
theorem EnAt.lt {w : World} {b : Nat} {x : Ent} (h : EnAt w b x) : b < w.heap.size := (Array.getElem?_eq_some_iff.1 h).1
theorem EnAt.kept {w w' : World} {b : Nat} {x : Ent} (h : EnAt w b x) (hb : Below w.heap.size w w') : EnAt w' b x := by unfold EnAt; rw [hb.block b h.lt]; exact h
theorem EnAt.tch {gs : List Nat} {w w' : World} {b : Nat} {x : Ent} (h : EnAt w b x) (ht : Tch gs w w') (hb : b ∉ gs) : EnAt w' b x := by unfold EnAt; rw [ht.block b h.lt hb]; exact h
theorem EnAt.name {w : World} {b : Nat} {x : Ent} (h : EnAt w b x) : w.cell? ⟨b, 0, none⟩ = some (.string ⟨x.name.toArray⟩) := by rw [cell_of_row w b 0 _ _ _ h]; rfl
theorem EnAt.new (w : World) (x : Ent) : EnAt (w.alloc (.cells x.cells.toArray 52)) w.heap.size x := heap_alloc_new w _
section
variable {ops : Array Oper} {rest : List Oper} {dst : Option Tmp} {ty : TypeId} {pos : String} {aft : Array Edge} {a : Act} {w : World} {Q : Exit → Act → World → Prop}
/-- an entry of its own is read -/
theorem wpl_load_own (x : Operand) (b : Nat) (e : Ent) (hx : a.eval x = .pointer (some ⟨b, 0, none⟩)) (hL : EnAt w b e)
    (h : wpList Tryd.prog ops Q rest (a.put dst (.agg e.cells.toArray)) w) :
    wpList Tryd.prog ops Q (Oper.mk dst (.load 52 x) ty pos aft none :: rest) a w :=
  wpList_load_mid rfl 52 x rfl b 0 hx e.cells _ (fun j v hv => by
    rw [Nat.zero_add, cell_of_row w b _ _ _ _ hL, List.getElem?_toArray]; exact hv) Tryd.underlying52 rfl ent_info h
end
set_option maxHeartbeats 4000000 in
set_option maxRecDepth 100000 in
theorem with_any (A : List Ent) (n : Nat) (x : Ent) (w : World) (hA : A.length = 32) (hn : n < 32) :
    Calls Tryd.prog 38 #[.agg (lnC A n).toArray, .agg x.cells.toArray] w fun e w' => e = .returned (.agg (lnC (withA A n x) ((n + 1 : Nat) : Int)).toArray) ∧ Below w.heap.size w w' := by
  have hL0 := LnAt.new w A n hA
  have hB0 : Below w.heap.size w (w.alloc (lnO A n)) := (Below.refl _ _).alloc (Nat.le_refl _) _
  have hs0 : (w.alloc (lnO A n)).heap.size = w.heap.size + 1 := by simp
  have hE1 := EnAt.new (w.alloc (lnO A n)) x
  have hB1 : Below (w.alloc (lnO A n)).heap.size (w.alloc (lnO A n)) ((w.alloc (lnO A n)).alloc (.cells x.cells.toArray 52)) := (Below.refl _ _).alloc (Nat.le_refl _) _
  have hs1 : ((w.alloc (lnO A n)).alloc (.cells x.cells.toArray 52)).heap.size = w.heap.size + 2 := by simp
  have hL2 := LnAt.new ((w.alloc (lnO A n)).alloc (.cells x.cells.toArray 52)) (List.replicate 32 zE) 0 (by simp)
  have hB2 : Below ((w.alloc (lnO A n)).alloc (.cells x.cells.toArray 52)).heap.size ((w.alloc (lnO A n)).alloc (.cells x.cells.toArray 52)) (((w.alloc (lnO A n)).alloc (.cells x.cells.toArray 52)).alloc (lnO (List.replicate 32 zE) 0)) := (Below.refl _ _).alloc (Nat.le_refl _) _
  have k0 := (hL0.kept hB1).kept hB2
  have k1 := hE1.kept hB2
  have kB := bl2 (bl2 hB0 hB1) hB2
  rw [hs0] at k1
  rw [hs1] at hL2
  unfold lnO at k0 k1 hL2 kB
  rw [← zero_line] at k0 k1 hL2 kB
  have HC := Hid.mk (show (lnC A n).toArray = (lnC A n).toArray from rfl)
  have c224 := k0.size
  have K0 := Hid.mk k0
  have K1 := Hid.mk k1
  have K2 := Hid.mk hL2
  have KB := Hid.mk kB
  clear hL0 hB0 hs0 hE1 hB1 hs1 hL2 hB2 k0 k1 kB HC
  generalize hCe : (lnC A n).toArray = C at *
  go_enter Tryd.func38, Tryd.ntmps38
  go_wp2_with fail
  go_loopw [5] (fun i wr => ∃ (k : Nat) (B : List Ent), k ≤ n ∧ i = .int .i64 k ∧ Hid (Shf A n k B) ∧ Hid (atA A n x = atA A k x) ∧ Hid (LnAt wr w.heap.size B n) ∧ Hid (EnAt wr (w.heap.size + 1) x) ∧ Hid (LnAt wr (w.heap.size + 2) (List.replicate 32 zE) 0) ∧ Hid (Below w.heap.size w wr)) (fun i _ => (intOf i).toNat)
  case atStart => exact ⟨n, A, Nat.le_refl _, rfl, Hid.mk (Shf.start A n), Hid.mk rfl, K0, K1, K2, KB⟩
  case round =>
    obtain ⟨k, B, hk, rfl, HS, HT, HL, HE, HR, HB⟩ := hrel
    have hkL : k < B.length := by rw [HS.out.1, hA]; omega
    have hn1 : (n : Int) + 1 ≤ 32 := by omega
    by_cases h0 : 0 < k
    · have hkB : k - 1 < B.length := by omega
      have n1 := HE.out.name
      have n2 := HL.out.cell (k - 1) 0 (by omega) (by omega)
      have e0 : (B[k - 1]'hkB).cells[0]? = some (.string ⟨(B[k - 1]'hkB).name.toArray⟩) := rfl
      rw [e0, Nat.add_zero] at n2
      have hnm : (A.map (·.name)).getD (k - 1) [] = (B[k - 1]'hkB).name := by
        have h2 := HS.out.2 (k - 1)
        rw [if_pos (by omega)] at h2
        rw [ent_name A (k - 1) (by omega)]
        rw [List.getElem?_eq_getElem hkB, List.getElem?_eq_getElem (show k - 1 < A.length by omega)] at h2
        rw [Option.some.inj h2]
      have hat : atA A k x = if Op.bytesLess x.name ((A.map (·.name)).getD (k - 1) []) = true then atA A (k - 1) x else k := by
        obtain ⟨q, rfl⟩ : ∃ q, k = q + 1 := ⟨k - 1, by omega⟩
        rfl
      rw [hnm] at hat
      have HSN := Hid.mk (HS.out.next h0 hk (by omega))
      have HEN := Hid.mk (show (B[k - 1]'hkB) = (B[k - 1]'hkB) from rfl)
      have HHA := Hid.mk hat
      have hk1 : ((k : Int) - 1) = ((k - 1 : Nat) : Int) := by omega
      have hd0 : decide ((0 : Int) < (k : Int)) = true := by simp; omega
      clear e0 hnm hat HEN
      by_cases hl : Op.bytesLess x.name (B[k - 1]'hkB).name = true
      · have HAT := Hid.mk (HT.out.trans (HHA.out.trans (if_pos hl)))
        go_wp2_with fail
        go_quiet (fail)
        have HLq := Hid.mk (HL.out.drewN nq)
        have HEq := Hid.mk (show EnAt (wr.drewN nq) (w.heap.size + 1) x from HE.out)
        have HRq := Hid.mk (HR.out.drewN nq)
        have HBq := Hid.mk (HB.out.trans (show Below w.heap.size wr (wr.drewN nq) from ⟨rfl, rfl, rfl, Nat.le_refl _, fun _ _ => rfl⟩))
        go_wp2_with (first | ((with_reducible_and_instances refine wpl_load_ent (.tmp 25) w.heap.size ((k - 1) * 7) (k - 1) B n ?_ HLq.out rfl hkB ?_); rfl) | ((with_reducible_and_instances refine wpl_store_ent (.tmp 28) (.tmp 26) w.heap.size (k * 7) k B n (B[k - 1]'hkB) ?_ ?_ HLq.out rfl hkL ?_); rfl; rfl; intro w5 hL5 hT5))
        go_roundw
        case rel => exact ⟨k - 1, _, by omega, by go_num, HSN, HAT, Hid.mk hL5, Hid.mk (HEq.out.tch hT5 (by simp)), Hid.mk (HRq.out.tch hT5 (by simp)), Hid.mk (Tch.below HBq.out hT5 (by simp) (Nat.le_refl _))⟩
        case measure => simp [intOf]; omega
      · have HAT := Hid.mk (HT.out.trans (HHA.out.trans (if_neg hl)))
        go_wp2_with fail
        go_quiet (fail)
        replace HL := Hid.mk (HL.out.drewN nq)
        replace HE := Hid.mk (show EnAt (wr.drewN nq) (w.heap.size + 1) x from HE.out)
        replace HR := Hid.mk (HR.out.drewN nq)
        replace HB := Hid.mk (HB.out.trans (show Below w.heap.size wr (wr.drewN nq) from ⟨rfl, rfl, rfl, Nat.le_refl _, fun _ _ => rfl⟩))
        go_wp2_with (first | ((with_reducible_and_instances refine wpl_load_own (.tmp 3) (w.heap.size + 1) x ?_ HE.out ?_); rfl) | ((with_reducible_and_instances refine wpl_store_ent (.tmp 34) (.tmp 32) w.heap.size (k * 7) k B n x ?_ ?_ HL.out rfl hkL ?_); rfl; rfl; intro w5 hL5 hT5; have c5 := hL5.size; have z5 := hL5.frozen 224; have HL6 := Hid.mk (hL5.setSize ((n : Int) + 1)); have HT6 := Hid.mk (hT5.setK (g := w.heap.size) (by simp) 224 (.int .i64 ((n : Int) + 1))); clear hL5 hT5) | ((with_reducible_and_instances refine wpl_load_line (.tmp 2) w.heap.size _ _ ?_ HL6.out ?_); rfl) | ((with_reducible_and_instances refine wpl_store_line (.tmp 4) (.tmp 39) (w.heap.size + 2) (List.replicate 32 zE) (B.set k x) 0 ((n : Int) + 1) ?_ ?_ (HR.out.tch HT6.out (by simp)) HL6.out.len ?_); rfl; rfl; intro w7 hL7 hT7))
        have hlast : (lnC (B.set k x) ((n : Int) + 1)) = lnC (withA A n x) ((n + 1 : Nat) : Int) := by
          rw [HS.out.stop hk (by omega) x]
          unfold withA
          rw [HAT.out]; rfl
        have hBe : Below w.heap.size w w7 := Tch.below (Tch.below HB.out HT6.out (by simp) (Nat.le_refl _)) hT7 (by simp) (Nat.le_refl _)
        refine bodyPost_ret (results_cell_row rfl _ _ (w.heap.size + 2) _ _ _ _ rfl hL7.row Tryd.underlying55 rfl (by rw [line_info, lnC_arr _ _ hL7.len])) rfl ?_
        exact ⟨by rw [hlast], hBe⟩
    · obtain rfl : k = 0 := by omega
      have HAT := Hid.mk (HT.out.trans (show atA A 0 x = 0 from rfl))
      go_wp2_with fail
      go_quiet (fail)
      replace HL := Hid.mk (HL.out.drewN nq)
      replace HE := Hid.mk (show EnAt (wr.drewN nq) (w.heap.size + 1) x from HE.out)
      replace HR := Hid.mk (HR.out.drewN nq)
      replace HB := Hid.mk (HB.out.trans (show Below w.heap.size wr (wr.drewN nq) from ⟨rfl, rfl, rfl, Nat.le_refl _, fun _ _ => rfl⟩))
      go_wp2_with (first | ((with_reducible_and_instances refine wpl_load_own (.tmp 3) (w.heap.size + 1) x ?_ HE.out ?_); rfl) | ((with_reducible_and_instances refine wpl_store_ent (.tmp 34) (.tmp 32) w.heap.size (0 * 7) 0 B n x ?_ ?_ HL.out rfl hkL ?_); rfl; rfl; intro w5 hL5 hT5; have c5 := hL5.size; have z5 := hL5.frozen 224; have HL6 := Hid.mk (hL5.setSize ((n : Int) + 1)); have HT6 := Hid.mk (hT5.setK (g := w.heap.size) (by simp) 224 (.int .i64 ((n : Int) + 1))); clear hL5 hT5) | ((with_reducible_and_instances refine wpl_load_line (.tmp 2) w.heap.size _ _ ?_ HL6.out ?_); rfl) | ((with_reducible_and_instances refine wpl_store_line (.tmp 4) (.tmp 39) (w.heap.size + 2) (List.replicate 32 zE) (B.set 0 x) 0 ((n : Int) + 1) ?_ ?_ (HR.out.tch HT6.out (by simp)) HL6.out.len ?_); rfl; rfl; intro w7 hL7 hT7))
      have hlast : (lnC (B.set 0 x) ((n : Int) + 1)) = lnC (withA A n x) ((n + 1 : Nat) : Int) := by
        rw [HS.out.stop hk (by omega) x]
        unfold withA
        rw [HAT.out]; rfl
      have hBe : Below w.heap.size w w7 := Tch.below (Tch.below HB.out HT6.out (by simp) (Nat.le_refl _)) hT7 (by simp) (Nat.le_refl _)
      refine bodyPost_ret (results_cell_row rfl _ _ (w.heap.size + 2) _ _ _ _ rfl hL7.row Tryd.underlying55 rfl (by rw [line_info, lnC_arr _ _ hL7.len])) rfl ?_
      exact ⟨by rw [hlast], hBe⟩
end Bw
end Go.Proofs.YthdffdobkampaaaDoor

/- What the document's own OwnFrame answers. -/
namespace Go.Proofs.YthdffdobkampaaaDoor
open Go.ChangeShapes Go.WideShapes Go.ChangeAt Go.RowKit
namespace Bw
open Bm Cm Go.Sort

theorem frame_iO : (Tryd.prog.info? 25).map (·.size) = some 6 := by kernel_rfl
theorem isBytes_tchO {gs : List Nat} {w w' : World} {a : Option Addr} {len cap : Nat} {l : List UInt8} (hb : IsBytes w a len cap l) (ht : Tch gs w w') (hg : ∀ x, a = some x → x.block ∉ gs) : IsBytes w' a len cap l := by
  refine ⟨hb.1, hb.2.1, hb.2.2.1, hb.2.2.2.1, fun x hx i hi => ?_⟩
  have hv := hb.2.2.2.2 x hx i hi
  have hlt := block_lt_of_cell hv
  have hblk : (x.add i).block = x.block := by unfold Addr.add; split <;> rfl
  unfold World.cell? at hv ⊢
  rw [ht.block _ hlt (by rw [hblk]; exact hg x hx)]
  exact hv
theorem isBytes_ownO {w : World} {base : Nat} {v : Value} {n : Nat} {l : List UInt8} (h : w.ownsRow base 5 1 v n (cellsOf l)) :
    ∃ a cap, v = .slice a n cap ∧ IsBytes w a n cap l ∧ ∀ x, a = some x → base ≤ x.block := by
  have h0 := h
  obtain ⟨hl, h2⟩ := h
  have hn : l.length = n := by simpa [cellsOf] using hl
  rcases h2 with ⟨rfl, h1⟩ | ⟨g, cap, cur, rfl, hg, hh, hc, hm, hsz, htk⟩
  · subst h1; exact ⟨none, 0, rfl, ⟨hn, Nat.le_refl _, Nat.zero_le _, (fun _ => rfl), (fun x hx => by cases hx)⟩, fun x hx => by cases hx⟩
  · refine ⟨some ⟨g, 0, none⟩, cap, rfl, ⟨hn, hc, hm, (fun h => by cases h), fun x hx i hi => ?_⟩, fun x hx => by cases hx; exact hg⟩
    cases hx
    exact h0.cells rfl i _ (by simp [cellsOf, hn, hi])
def zC : Obj := .cells #[.int .i64 0, .bool false, .bool false, .bool false, .int .i64 0, .slice none 0 0] 25
/-- behind the append -/
theorem own_end (id : Int) (lo fa re : Bool) (sz : Int) (a : Option Addr) (len cap : Nat) (ao : Option Addr) (co : Nat) (dt : List UInt8) (w w3 : World)
    (hB : Below w.heap.size w w3) (_hz1 : w3.heap[w.heap.size]? = some (.cells #[.int .i64 id, .bool lo, .bool fa, .bool re, .int .i64 sz, .slice a len cap] 25 (0, 0)))
    (hz2 : w3.heap[w.heap.size + 1]? = some (.cells #[.int .i64 0, .bool false, .bool false, .bool false, .int .i64 0, .slice none 0 0] 25 (0, 0)))
    (hby : IsBytes w3 ao len co dt) (hblk : ∀ x, ao = some x → w.heap.size + 2 ≤ x.block) :
    let wF := (((((((w3.setCell ⟨w.heap.size, 5, none⟩ (.slice ao len co)).setCell ⟨(w.heap.size + 1), 0, none⟩ (.int .i64 id)).setCell ⟨(w.heap.size + 1), 1, none⟩ (.bool lo)).setCell ⟨(w.heap.size + 1), 2, none⟩ (.bool fa)).setCell ⟨(w.heap.size + 1), 3, none⟩ (.bool re)).setCell ⟨(w.heap.size + 1), 4, none⟩ (.int .i64 sz)).setCell ⟨(w.heap.size + 1), 5, none⟩ (.slice ao len co))
    wF.heap[w.heap.size + 1]? = some (.cells #[.int .i64 id, .bool lo, .bool fa, .bool re, .int .i64 sz, .slice ao len co] 25 (0, 0)) ∧ IsBytes wF ao len co dt ∧ Below w.heap.size w wF := by
  intro wF
  have hT1 : Tch [w.heap.size, w.heap.size + 1] w3 wF := ((((((((Tch.refl [w.heap.size, w.heap.size + 1] w3).setK (by simp) _ _).setK (by simp) _ _).setK (by simp) _ _).setK (by simp) _ _).setK (by simp) _ _).setK (by simp) _ _).setK (by simp) _ _)
  have hz2s : (w3.setCell ⟨w.heap.size, 5, none⟩ (.slice ao len co)).heap[w.heap.size + 1]? = some (.cells #[.int .i64 0, .bool false, .bool false, .bool false, .int .i64 0, .slice none 0 0] 25 (0, 0)) := by
    rw [Below.heap_setCell _ _ _ _ (by simp)]; exact hz2
  have kc0 := cell_of_row (w3.setCell ⟨w.heap.size, 5, none⟩ (.slice ao len co)) (w.heap.size + 1) 0 _ _ _ hz2s
  have kz0 := frozen_of_row (w3.setCell ⟨w.heap.size, 5, none⟩ (.slice ao len co)) (w.heap.size + 1) 0 _ _ hz2s
  have ks0 := heap_setCell_same (w3.setCell ⟨w.heap.size, 5, none⟩ (.slice ao len co)) (w.heap.size + 1) 0 _ _ (.int .i64 id) hz2s
  simp only [List.setIfInBounds_toArray, List.set_cons_zero] at ks0
  simp at kc0
  have kc1 := cell_of_row ((w3.setCell ⟨w.heap.size, 5, none⟩ (.slice ao len co)).setCell ⟨(w.heap.size + 1), 0, none⟩ (.int .i64 id)) (w.heap.size + 1) 1 _ _ _ ks0
  have kz1 := frozen_of_row ((w3.setCell ⟨w.heap.size, 5, none⟩ (.slice ao len co)).setCell ⟨(w.heap.size + 1), 0, none⟩ (.int .i64 id)) (w.heap.size + 1) 1 _ _ ks0
  have ks1 := heap_setCell_same ((w3.setCell ⟨w.heap.size, 5, none⟩ (.slice ao len co)).setCell ⟨(w.heap.size + 1), 0, none⟩ (.int .i64 id)) (w.heap.size + 1) 1 _ _ (.bool lo) ks0
  simp only [List.setIfInBounds_toArray, List.set_cons_zero, List.set_cons_succ] at ks1
  simp at kc1
  have kc2 := cell_of_row (((w3.setCell ⟨w.heap.size, 5, none⟩ (.slice ao len co)).setCell ⟨(w.heap.size + 1), 0, none⟩ (.int .i64 id)).setCell ⟨(w.heap.size + 1), 1, none⟩ (.bool lo)) (w.heap.size + 1) 2 _ _ _ ks1
  have kz2 := frozen_of_row (((w3.setCell ⟨w.heap.size, 5, none⟩ (.slice ao len co)).setCell ⟨(w.heap.size + 1), 0, none⟩ (.int .i64 id)).setCell ⟨(w.heap.size + 1), 1, none⟩ (.bool lo)) (w.heap.size + 1) 2 _ _ ks1
  have ks2 := heap_setCell_same (((w3.setCell ⟨w.heap.size, 5, none⟩ (.slice ao len co)).setCell ⟨(w.heap.size + 1), 0, none⟩ (.int .i64 id)).setCell ⟨(w.heap.size + 1), 1, none⟩ (.bool lo)) (w.heap.size + 1) 2 _ _ (.bool fa) ks1
  simp only [List.setIfInBounds_toArray, List.set_cons_zero, List.set_cons_succ] at ks2
  simp at kc2
  have kc3 := cell_of_row ((((w3.setCell ⟨w.heap.size, 5, none⟩ (.slice ao len co)).setCell ⟨(w.heap.size + 1), 0, none⟩ (.int .i64 id)).setCell ⟨(w.heap.size + 1), 1, none⟩ (.bool lo)).setCell ⟨(w.heap.size + 1), 2, none⟩ (.bool fa)) (w.heap.size + 1) 3 _ _ _ ks2
  have kz3 := frozen_of_row ((((w3.setCell ⟨w.heap.size, 5, none⟩ (.slice ao len co)).setCell ⟨(w.heap.size + 1), 0, none⟩ (.int .i64 id)).setCell ⟨(w.heap.size + 1), 1, none⟩ (.bool lo)).setCell ⟨(w.heap.size + 1), 2, none⟩ (.bool fa)) (w.heap.size + 1) 3 _ _ ks2
  have ks3 := heap_setCell_same ((((w3.setCell ⟨w.heap.size, 5, none⟩ (.slice ao len co)).setCell ⟨(w.heap.size + 1), 0, none⟩ (.int .i64 id)).setCell ⟨(w.heap.size + 1), 1, none⟩ (.bool lo)).setCell ⟨(w.heap.size + 1), 2, none⟩ (.bool fa)) (w.heap.size + 1) 3 _ _ (.bool re) ks2
  simp only [List.setIfInBounds_toArray, List.set_cons_zero, List.set_cons_succ] at ks3
  simp at kc3
  have kc4 := cell_of_row (((((w3.setCell ⟨w.heap.size, 5, none⟩ (.slice ao len co)).setCell ⟨(w.heap.size + 1), 0, none⟩ (.int .i64 id)).setCell ⟨(w.heap.size + 1), 1, none⟩ (.bool lo)).setCell ⟨(w.heap.size + 1), 2, none⟩ (.bool fa)).setCell ⟨(w.heap.size + 1), 3, none⟩ (.bool re)) (w.heap.size + 1) 4 _ _ _ ks3
  have kz4 := frozen_of_row (((((w3.setCell ⟨w.heap.size, 5, none⟩ (.slice ao len co)).setCell ⟨(w.heap.size + 1), 0, none⟩ (.int .i64 id)).setCell ⟨(w.heap.size + 1), 1, none⟩ (.bool lo)).setCell ⟨(w.heap.size + 1), 2, none⟩ (.bool fa)).setCell ⟨(w.heap.size + 1), 3, none⟩ (.bool re)) (w.heap.size + 1) 4 _ _ ks3
  have ks4 := heap_setCell_same (((((w3.setCell ⟨w.heap.size, 5, none⟩ (.slice ao len co)).setCell ⟨(w.heap.size + 1), 0, none⟩ (.int .i64 id)).setCell ⟨(w.heap.size + 1), 1, none⟩ (.bool lo)).setCell ⟨(w.heap.size + 1), 2, none⟩ (.bool fa)).setCell ⟨(w.heap.size + 1), 3, none⟩ (.bool re)) (w.heap.size + 1) 4 _ _ (.int .i64 sz) ks3
  simp only [List.setIfInBounds_toArray, List.set_cons_zero, List.set_cons_succ] at ks4
  simp at kc4
  have kc5 := cell_of_row ((((((w3.setCell ⟨w.heap.size, 5, none⟩ (.slice ao len co)).setCell ⟨(w.heap.size + 1), 0, none⟩ (.int .i64 id)).setCell ⟨(w.heap.size + 1), 1, none⟩ (.bool lo)).setCell ⟨(w.heap.size + 1), 2, none⟩ (.bool fa)).setCell ⟨(w.heap.size + 1), 3, none⟩ (.bool re)).setCell ⟨(w.heap.size + 1), 4, none⟩ (.int .i64 sz)) (w.heap.size + 1) 5 _ _ _ ks4
  have kz5 := frozen_of_row ((((((w3.setCell ⟨w.heap.size, 5, none⟩ (.slice ao len co)).setCell ⟨(w.heap.size + 1), 0, none⟩ (.int .i64 id)).setCell ⟨(w.heap.size + 1), 1, none⟩ (.bool lo)).setCell ⟨(w.heap.size + 1), 2, none⟩ (.bool fa)).setCell ⟨(w.heap.size + 1), 3, none⟩ (.bool re)).setCell ⟨(w.heap.size + 1), 4, none⟩ (.int .i64 sz)) (w.heap.size + 1) 5 _ _ ks4
  have ks5 := heap_setCell_same ((((((w3.setCell ⟨w.heap.size, 5, none⟩ (.slice ao len co)).setCell ⟨(w.heap.size + 1), 0, none⟩ (.int .i64 id)).setCell ⟨(w.heap.size + 1), 1, none⟩ (.bool lo)).setCell ⟨(w.heap.size + 1), 2, none⟩ (.bool fa)).setCell ⟨(w.heap.size + 1), 3, none⟩ (.bool re)).setCell ⟨(w.heap.size + 1), 4, none⟩ (.int .i64 sz)) (w.heap.size + 1) 5 _ _ (.slice ao len co) ks4
  simp only [List.setIfInBounds_toArray, List.set_cons_zero, List.set_cons_succ] at ks5
  simp at kc5
  exact ⟨ks5, isBytes_tchO hby hT1 (fun x hx => by have := hblk x hx; simp; omega), Tch.below hB hT1 (by simp) (Nat.le_refl _)⟩

set_option maxHeartbeats 8000000 in
set_option maxRecDepth 100000 in
theorem own_blk (f : Fr) (a : Option Addr) (len cap : Nat) (w : World) (hby : IsBytes w a len cap f.dt) (hlen : len ≤ 140737488351232) :
    Calls Tryd.prog 27 #[frameV f.id f.lo f.fa f.re f.sz a len cap] w fun e w' => ∃ a' c', e = .returned (frameV f.id f.lo f.fa f.re f.sz a' len c') ∧ IsBytes w' a' len c' f.dt ∧ (∀ x, a' = some x → w.heap.size ≤ x.block) ∧ Below w.heap.size w w' := by
  obtain ⟨i0, hi, hz0, hz1, hz2⟩ := info_parts info_u8
  obtain ⟨id, lo, fa, re, sz, dt⟩ := f
  simp only at hby ⊢
  have hB1 := below_box w id lo fa re sz a len cap
  have hA1 := heap_alloc_new w (frameC id lo fa re sz a len cap)
  have hB2 : Below (w.alloc (frameC id lo fa re sz a len cap)).heap.size (w.alloc (frameC id lo fa re sz a len cap)) ((w.alloc (frameC id lo fa re sz a len cap)).alloc zC) := (Below.refl _ _).alloc (Nat.le_refl _) _
  have hA2 := heap_alloc_new (w.alloc (frameC id lo fa re sz a len cap)) zC
  have hsz1 : (w.alloc (frameC id lo fa re sz a len cap)).heap.size = w.heap.size + 1 := by simp
  have hsz2 : ((w.alloc (frameC id lo fa re sz a len cap)).alloc zC).heap.size = w.heap.size + 2 := by simp
  have hA1' := (hB2.block w.heap.size (by omega)).trans hA1
  rw [hsz1] at hA2
  have hB := bl2 hB1 hB2
  have hY := isBytes_below hby hB
  unfold frameC zC at hB hA1' hA2 hY hsz2
  unfold frameV
  have HY := Hid.mk hY
  have HB := Hid.mk hB
  have HA1 := Hid.mk hA1'
  have HA2 := Hid.mk hA2
  clear hB1 hA1 hB2 hA2 hsz1 hA1' hB hY hby
  go_enter Tryd.func27, Tryd.ntmps27
  cases a with
  | none =>
    have hl0 := HY.out.2.2.2.1 rfl
    subst hl0
    go_wp2_with fail
    have hd0 : dt = [] := List.eq_nil_of_length_eq_zero HY.out.1
    subst hd0
    have hrow := heap_alloc_new (w.alloc (.cells #[.int .i64 id, .bool lo, .bool fa, .bool re, .int .i64 sz, .slice none 0 0] 25)) (.cells #[.int .i64 id, .bool lo, .bool fa, .bool re, .int .i64 sz, .slice none 0 0] 25)
    have hs1 : (w.alloc (.cells #[.int .i64 id, .bool lo, .bool fa, .bool re, .int .i64 sz, .slice none 0 0] 25)).heap.size = w.heap.size + 1 := by simp
    rw [hs1] at hrow
    have hBe : Below w.heap.size w ((w.alloc (.cells #[.int .i64 id, .bool lo, .bool fa, .bool re, .int .i64 sz, .slice none 0 0] 25)).alloc (.cells #[.int .i64 id, .bool lo, .bool fa, .bool re, .int .i64 sz, .slice none 0 0] 25)) := bl2 ((Below.refl _ _).alloc (Nat.le_refl _) _) ((Below.refl _ _).alloc (Nat.le_refl _) _)
    refine bodyPost_ret (results_cell_row rfl _ _ (w.heap.size + 1) _ _ _ _ rfl hrow Tryd.underlying25 rfl frame_iO) rfl ?_
    exact ⟨none, 0, rfl, ⟨rfl, Nat.le_refl _, Nat.zero_le _, fun _ => rfl, fun x hx => by cases hx⟩, (fun x hx => by cases hx), hBe⟩
  | some x =>
    have hcl : (cellsOf dt).length = len * 1 := by rw [cellsOf_length, HY.out.1, Nat.mul_one]
    have hce := HY.out.2.2.2.2 x rfl
    have hdl := HY.out.1
    go_wp2_with (at_builtin; refine wpList_append_own _ rfl (.const (.slice none 0 0)) (.tmp 4) 23 rfl (w.heap.size + 2) 5 i0 (.int .u8 0) 1 1 Tryd.underlying23 hi hz0 hz1 hz2 rfl (by decide) (.slice none 0 0) 0 [] rfl (World.ownsRow_nil _ _ _ _) x len cap (cellsOf dt) rfl hcl (by intro q u hq; have hq1 : q < dt.length := (by rcases Nat.lt_or_ge q dt.length with hh | hh; exact hh; rw [List.getElem?_eq_none (by rw [cellsOf_length]; exact hh)] at hq; cases hq); rw [hce q (by omega)]; simp [cellsOf, hq1] at hq; rw [← hq]; simp [List.getD, hq1]) (by intro u hu; simp [cellsOf] at hu; obtain ⟨c, -, rfl⟩ := hu; rfl) (by unfold maxLen; omega) (by omega) (by omega) ?_; intro v1 w3 hown1 hgrow1 _; have hown2 : w3.ownsRow (w.heap.size + 2) 5 1 v1 len (cellsOf dt) := (by simpa using hown1); have hb3 := Below.grown (Below.refl (w.heap.size + 2) _) hgrow1 (by simp) (fun q hq => by cases hq); obtain ⟨ao, co, rfl, hby3, hblk⟩ := isBytes_ownO hown2; have r1 := (hb3.block w.heap.size (by omega)).trans HA1.out; have r2 := (hb3.block (w.heap.size + 1) (by omega)).trans HA2.out; have hBw := HB.out.trans (hb3.mono (Nat.le_add_right _ _)); have c0 := cell_of_row w3 w.heap.size 0 _ _ _ r1; simp at c0; have c1 := cell_of_row w3 w.heap.size 1 _ _ _ r1; simp at c1; have c2 := cell_of_row w3 w.heap.size 2 _ _ _ r1; simp at c2; have c3 := cell_of_row w3 w.heap.size 3 _ _ _ r1; simp at c3; have c4 := cell_of_row w3 w.heap.size 4 _ _ _ r1; simp at c4; have c5 := cell_of_row w3 w.heap.size 5 _ _ _ r1; simp at c5; have z5 := frozen_of_row w3 w.heap.size 5 _ _ r1; have s5 := cell_of_row _ w.heap.size 5 _ _ _ (heap_setCell_same w3 w.heap.size 5 _ _ (.slice ao len co) r1); simp at s5; have b0 := cell_of_row w3 (w.heap.size + 1) 0 _ _ _ r2; simp at b0; have f0 := frozen_of_row w3 (w.heap.size + 1) 0 _ _ r2; have b1 := cell_of_row w3 (w.heap.size + 1) 1 _ _ _ r2; simp at b1; have f1 := frozen_of_row w3 (w.heap.size + 1) 1 _ _ r2; have b2 := cell_of_row w3 (w.heap.size + 1) 2 _ _ _ r2; simp at b2; have f2 := frozen_of_row w3 (w.heap.size + 1) 2 _ _ r2; have b3 := cell_of_row w3 (w.heap.size + 1) 3 _ _ _ r2; simp at b3; have f3 := frozen_of_row w3 (w.heap.size + 1) 3 _ _ r2; have b4 := cell_of_row w3 (w.heap.size + 1) 4 _ _ _ r2; simp at b4; have f4 := frozen_of_row w3 (w.heap.size + 1) 4 _ _ r2; have b5 := cell_of_row w3 (w.heap.size + 1) 5 _ _ _ r2; simp at b5; have f5 := frozen_of_row w3 (w.heap.size + 1) 5 _ _ r2; have HE := Hid.mk (own_end id lo fa re sz (some x) len cap ao co dt w w3 hBw r1 r2 hby3 hblk); have HBK := Hid.mk hblk; clear hown1 hown2 hb3 hby3 hblk r1 r2 hBw hgrow1 hce hcl hdl)
    obtain ⟨e1, e2, e3⟩ := HE.out
    refine bodyPost_ret (results_cell_row rfl _ _ (w.heap.size + 1) _ _ _ _ rfl e1 Tryd.underlying25 rfl frame_iO) rfl ?_
    exact ⟨ao, co, rfl, e2, fun y hy => by have := HBK.out y hy; omega, e3⟩
theorem own_any (f : Fr) (a : Option Addr) (len cap : Nat) (w : World) (hby : IsBytes w a len cap f.dt) (hlen : len ≤ 140737488351232) :
    Calls Tryd.prog 27 #[frameV f.id f.lo f.fa f.re f.sz a len cap] w fun e w' => ∃ a' c', e = .returned (frameV f.id f.lo f.fa f.re f.sz a' len c') ∧ IsBytes w' a' len c' f.dt ∧ Below w.heap.size w w' :=
  (own_blk f a len cap w hby hlen).mono fun _ _ ⟨a', c', h1, h2, _, h4⟩ => ⟨a', c', h1, h2, h4⟩
end Bw
end Go.Proofs.YthdffdobkampaaaDoor

/- An append to one row beside another one: the row keeps its block, or moves into a new one; of no program. -/
namespace Go.Proofs.YthdffdobkampaaaDoor
open Go.RowKit
namespace Bw
theorem run_append_two {P : Program} (w : World) (base : Nat) (t ty e : TypeId) (i : TypeInfo) (z : Value) (size bytes : Nat) (ht : P.underlying t = some (.slice e)) (hi : P.info? e = some i) (hz : i.zero = some z)
    (hsize : i.size = size) (hby : i.bytes = bytes) (hzs : z.cells.size = size) (hsz : 0 < size)
    (v : Value) (n : Nat) (xs : List Value) (hown : w.ownsRow base e size v n xs)
    (a : Addr) (m c : Nat) (news : List Value) (hl : news.length = m * size) (hnews : ∀ j u, news[j]? = some u → w.cell? (a.add j) = some u) (h1 : ∀ u ∈ news, u.oneCell' = true)
    (h0 : 0 < m) (h63 : n + m ≤ maxLen) (hbytes : (n + m) * bytes ≤ 140737488355328) (hbase : base ≤ w.heap.size) :
    ∃ v' w', (Builtin.append_ #[t, t] ty #[v, .slice (some a) m c]).run P w = .ok v' w' ∧ w'.ownsRow base e size v' (n + m) (xs ++ news) ∧ w.grownBy w' v.ownBlock ∧ (v'.ownBlock = v.ownBlock ∨ v'.ownBlock = some w.heap.size) := by
  obtain ⟨v', w', hr, h2, h3, -⟩ := run_append_own (P := P) w base t ty e i z size bytes ht hi hz hsize hby hzs hsz v n xs hown a m c news hl hnews h1 h63 hbytes hbase
  refine ⟨v', w', hr, h2, h3, ?_⟩
  subst hsize
  subst hby
  have hsmall : n + m ≤ 9223372036854775807 := by simp only [maxLen] at h63; omega
  rcases hown.2 with ⟨rfl, rfl⟩ | ⟨g, cap, cur, rfl, hbg, hg, hnc, hcm, hcs, htake⟩
  · have hq := run_append_nil (P := P) w t ty e i z ht hi hz a m c news hl hnews h0 (by omega) (by have hb := hbytes; simp only [Nat.zero_add] at hb; omega)
    rw [hq] at hr
    injection hr with e1 e2
    right; rw [← e1]; rfl
  · by_cases hroom : n + m ≤ cap
    · have hfit : n * i.size + news.length ≤ cur.size := by rw [hl, hcs, ← Nat.add_mul]; exact Nat.mul_le_mul_right _ hroom
      have hq := run_append_room (P := P) w t ty e i ht hi g n cap cur hg a m c news hl hnews h1 hroom hfit
      rw [hq] at hr
      injection hr with e1 e2
      left; rw [← e1]; rfl
    · have holds : ∀ j u, xs[j]? = some u → w.cell? ((⟨g, 0, none⟩ : Addr).add j) = some u := hown.cells (g := g) rfl
      have hq := run_append_grow (P := P) w t ty e i z ht hi hz ⟨g, 0, none⟩ n cap xs hown.1 holds a m c news hl hnews (by omega) (by omega) (growslice_fits (by omega) hbytes)
      rw [hq] at hr
      injection hr with e1 e2
      right; rw [← e1]; rfl
theorem wpList_append_two {P : Program} {w : World} {ops : Array Oper} {rest : List Oper} {o : Oper} {a : Act} {Q : Exit → Act → World → Prop} (hgd : o.guard = none) (s x : Operand) (t : TypeId)
    (ho : o.op = .call { callee := .builtin .append, args := #[s, x], argTypes := #[t, t] })
    (base : Nat) (e : TypeId) (i : TypeInfo) (z : Value) (size bytes : Nat) (ht : P.underlying t = some (.slice e)) (hi : P.info? e = some i) (hz : i.zero = some z)
    (hsize : i.size = size) (hby : i.bytes = bytes) (hzs : z.cells.size = size) (hsz : 0 < size)
    (v : Value) (n : Nat) (xs : List Value) (hs : a.eval s = v) (hown : w.ownsRow base e size v n xs)
    (ad : Addr) (m c : Nat) (news : List Value) (hx : a.eval x = .slice (some ad) m c) (hl : news.length = m * size) (hnews : ∀ j u, news[j]? = some u → w.cell? (ad.add j) = some u) (h1 : ∀ u ∈ news, u.oneCell' = true)
    (h0 : 0 < m) (h63 : n + m ≤ maxLen) (hbytes : (n + m) * bytes ≤ 140737488355328) (hbase : base ≤ w.heap.size)
    (h : ∀ v' w', w'.ownsRow base e size v' (n + m) (xs ++ news) → w.grownBy w' v.ownBlock → (v'.ownBlock = v.ownBlock ∨ v'.ownBlock = some w.heap.size) → wpList P ops Q rest (a.put o.dst v') w') : wpList P ops Q (o :: rest) a w := by
  refine wpList_plain hgd fun K hK => ?_
  obtain ⟨v', w', hr, h2, h3, h4⟩ := run_append_two (P := P) w base t o.type e i z size bytes ht hi hz hsize hby hzs hsz v n xs hown ad m c news hl hnews h1 h0 h63 hbytes hbase
  unfold Oper.wp
  simp [execOp, ho, resolve, invoke, builtin, hs, hx, hr, Result.andThen]
  exact hK _ _ (h v' w' h2 h3 h4)
/-- another row stays as it was -/
theorem owns_beside {w w' : World} {base : Nat} {e : TypeId} {size : Nat} {v : Value} {n : Nat} {xs : List Value} {row : Option Nat} (h : w.ownsRow base e size v n xs) (hg : w.grownBy w' row) (hne : ∀ k, v.ownBlock = some k → some k ≠ row) : w'.ownsRow base e size v n xs := by
  obtain ⟨h1, h2⟩ := h
  refine ⟨h1, ?_⟩
  rcases h2 with h2 | ⟨g, cap, cur, hv, hgb, hh, r⟩
  · exact Or.inl h2
  · subst hv
    refine Or.inr ⟨g, cap, cur, rfl, hgb, ?_, r⟩
    rw [hg.block g (lt_of_block hh) (hne g rfl)]
    exact hh
/-- two rows lie apart -/
def ApartV (v u : Value) : Prop := ∀ k, v.ownBlock = some k → u.ownBlock ≠ some k
theorem ApartV.symm {v u : Value} (h : ApartV v u) : ApartV u v := fun k hk hv => h k hv hk
theorem apart_next {w : World} {base : Nat} {e : TypeId} {size : Nat} {v v' u : Value} {n : Nat} {xs : List Value} (h : ApartV v u) (hu : w.ownsRow base e size u n xs) (hb : v'.ownBlock = v.ownBlock ∨ v'.ownBlock = some w.heap.size) : ApartV v' u := by
  intro k hk hx
  rcases hb with hb | hb
  · exact h k (by rw [← hb]; exact hk) hx
  · rw [hb] at hk
    have := (World.ownsRow.lt hu k hx).2
    simp at hk
    omega
end Bw
end Go.Proofs.YthdffdobkampaaaDoor

/- Frames as cells: plain facts. -/
namespace Go.Proofs.YthdffdobkampaaaDoor
open Go.ChangeShapes Go.WideShapes Go.ChangeAt Go.RowKit
namespace Bw
open Bm
/-- frames as cells -/
def frC (l : List FrV) : List Value := l.flatMap FrV.cells
theorem frC_length (l : List FrV) : (frC l).length = l.length * 6 := by
  induction l with
  | nil => rfl
  | cons v l ih => rw [frC, List.flatMap_cons, List.length_append]; show 6 + (frC l).length = _; rw [ih, List.length_cons]; omega
theorem frC_at (l : List FrV) : ∀ (i k : Nat) (hi : i < l.length) (hk : k < 6), (frC l)[i * 6 + k]? = some ((l[i].cells)[k]'hk) := by
  induction l with
  | nil => intro i k hi; exact absurd hi (Nat.not_lt_zero _)
  | cons v l ih =>
    intro i k hi hk
    have e : frC (v :: l) = v.cells ++ frC l := rfl
    have h6 : v.cells.length = 6 := rfl
    rw [e]
    cases i with
    | zero => rw [Nat.zero_mul, Nat.zero_add, List.getElem?_append_left (by omega), List.getElem?_eq_getElem (by omega)]; rfl
    | succ i =>
      rw [List.getElem?_append_right (by omega), h6, show (i + 1) * 6 + k - 6 = i * 6 + k by omega, ih i k (by simpa using hi) hk]
      rfl
theorem frC_idx (l : List FrV) (j : Nat) (u : Value) (h : (frC l)[j]? = some u) : ∃ i k, ∃ hi : i < l.length, ∃ hk : k < 6, j = i * 6 + k ∧ u = (l[i].cells)[k]'hk := by
  have hj : j < l.length * 6 := by
    rcases Nat.lt_or_ge j (l.length * 6) with x | x
    · exact x
    · rw [List.getElem?_eq_none (by rw [frC_length]; exact x)] at h; cases h
  refine ⟨j / 6, j % 6, by omega, Nat.mod_lt _ (by omega), by omega, ?_⟩
  have := frC_at l (j / 6) (j % 6) (by omega) (Nat.mod_lt _ (by omega))
  rw [show j / 6 * 6 + j % 6 = j by omega, h] at this
  exact Option.some.inj this
theorem frC_one (l : List FrV) : ∀ u ∈ frC l, u.oneCell' = true := by
  intro u hu
  obtain ⟨v, _, hv⟩ := List.mem_flatMap.1 hu
  unfold FrV.cells at hv
  simp only [List.mem_cons, List.not_mem_nil, or_false] at hv
  rcases hv with rfl | rfl | rfl | rfl | rfl | rfl <;> rfl
end Bw
end Go.Proofs.YthdffdobkampaaaDoor

/- What bytes.Clone answers, and queue.framesOf: the frames of a line, each with bytes of its own. -/
namespace Go.Proofs.YthdffdobkampaaaDoor
open Go.ChangeShapes Go.WideShapes Go.ChangeAt Go.RowKit
namespace Bw
open Bm Cm Go.Sort
theorem info_fr : (Tryd.prog.info? 25).map (fun i => (i.zero, i.size, i.bytes)) = some (some (.agg #[.int .i64 0, .bool false, .bool false, .bool false, .int .i64 0, .slice none 0 0]), 6, 48) := by kernel_rfl
theorem eqlB_nil (w : World) (cap : Nat) : (binOp .eql 23 (.slice none 0 cap) (.slice none 0 0)).run Tryd.prog w = .ok (.bool true) w :=
  Lib.run_eql_slice_nil w 23 5 none 0 cap 0 0 Tryd.underlying23
theorem eqlB_some (w : World) (x : Addr) (n cap : Nat) : (binOp .eql 23 (.slice (some x) n cap) (.slice none 0 0)).run Tryd.prog w = .ok (.bool false) w :=
  Lib.run_eql_slice_nil w 23 5 (some x) n cap 0 0 Tryd.underlying23
set_option maxHeartbeats 4000000 in
set_option maxRecDepth 100000 in
/-- a copy, in memory of its own -/
theorem cloneB_any (a : Option Addr) (len cap : Nat) (dt : List UInt8) (w : World) (hY : IsBytes w a len cap dt) (hlen : len ≤ 140737488351232) :
    Calls Tryd.prog 44 #[.slice a len cap] w fun e w' => ∃ a' c', e = .returned (.slice a' len c') ∧ IsBytes w' a' len c' dt ∧ (∀ x, a' = some x → w.heap.size ≤ x.block) ∧ Below w.heap.size w w' := by
  obtain ⟨i0, hi, hz0, hz1, hz2⟩ := info_parts info_u8
  cases a with
  | none =>
    have hl0 := hY.2.2.2.1 rfl
    subst hl0
    have hd0 : dt = [] := List.eq_nil_of_length_eq_zero hY.1
    subst hd0
    have he := eqlB_nil w cap
    go_enter Tryd.func44, Tryd.ntmps44
    go_wp2_with fail
    go_ret
    exact ⟨none, 0, rfl, ⟨rfl, Nat.le_refl _, Nat.zero_le _, fun _ => rfl, fun x hx => by cases hx⟩, (fun x hx => by cases hx), Below.refl _ _⟩
  | some x =>
    have hB0 : Below w.heap.size w (w.alloc (.cells #[] 5)) := (Below.refl _ _).alloc (Nat.le_refl _) _
    have hY1 := isBytes_below hY hB0
    have hcl : (cellsOf dt).length = len * 1 := by rw [cellsOf_length, hY.1, Nat.mul_one]
    have hce := hY1.2.2.2.2 x rfl
    have hdl := hY.1
    have he := eqlB_some w x len cap
    have hcc : ∀ q u, (cellsOf dt)[q]? = some u → (w.alloc (.cells #[] 5)).cell? (x.add q) = some u := by
      intro q u hq
      have hq1 : q < dt.length := by
        rcases Nat.lt_or_ge q dt.length with hh | hh
        · exact hh
        · rw [List.getElem?_eq_none (by rw [cellsOf_length]; exact hh)] at hq; cases hq
      rw [hce q (by omega)]
      simp [cellsOf, hq1] at hq
      rw [← hq]; simp [List.getD, hq1]
    have HO := Hid.mk (show (w.alloc (.cells #[] 5)).ownsRow w.heap.size 5 1 (.slice (some ⟨w.heap.size, 0, none⟩) 0 0) 0 [] from World.ownsRow_made w #[] 0 (Nat.le_refl _) (Nat.zero_le _) rfl)
    have HB := Hid.mk hB0
    have HCC := Hid.mk hcc
    have HCL := Hid.mk hcl
    clear hY hB0 hY1 hcl hce hcc hdl
    go_enter Tryd.func44, Tryd.ntmps44
    go_wp2_with (at_builtin; refine wpList_append_own _ rfl (.tmp 5) (.tmp 6) 23 rfl w.heap.size 5 i0 (.int .u8 0) 1 1 Tryd.underlying23 hi hz0 hz1 hz2 rfl (by decide) _ _ _ rfl HO.out x len cap (cellsOf dt) rfl HCL.out HCC.out (by intro u hu; simp [cellsOf] at hu; obtain ⟨c, -, rfl⟩ := hu; rfl) (by unfold maxLen; omega) (by omega) (by simp) ?_; intro v3 w3 hown3 hgrow3 hnil3)
    have hown2 : w3.ownsRow w.heap.size 5 1 v3 len (cellsOf dt) := by simpa using hown3
    have hB3 : Below w.heap.size w w3 := Below.grown HB.out hgrow3 (by simp) (fun q hq => (HO.out.lt q hq).1)
    obtain ⟨ao, co, rfl, hby3, hblk⟩ := isBytes_ownO hown2
    go_ret
    exact ⟨ao, co, rfl, hby3, hblk, hB3⟩
theorem isBytes_grown {w w' : World} {row : Option Nat} {a : Option Addr} {len cap : Nat} {l : List UInt8} (h : IsBytes w a len cap l) (hg : w.grownBy w' row) (hne : l ≠ [] → ∀ x, a = some x → row ≠ some x.block) : IsBytes w' a len cap l := by
  refine ⟨h.1, h.2.1, h.2.2.1, h.2.2.2.1, fun x hx i hi => ?_⟩
  have hv := h.2.2.2.2 x hx i hi
  have hlt := block_lt_of_cell hv
  have hblk : (x.add i).block = x.block := by unfold Addr.add; split <;> rfl
  have hl : l ≠ [] := by intro e; subst e; have := h.1; simp at this; omega
  unfold World.cell? at hv ⊢
  rw [hg.block _ hlt (by rw [hblk]; exact fun e => hne hl x hx e.symm)]
  exact hv
/-- a row of frames of one's own, each with bytes that lie apart from it -/
structure OwnFrs (w : World) (base : Nat) (r : Value) (l : List FrV) : Prop where
  row : w.ownsRow base 25 6 r l.length (frC l)
  bytes : ∀ v ∈ l, IsBytes w v.a v.len v.cap v.f.dt
  apart : ∀ v ∈ l, v.f.dt ≠ [] → ∀ x, v.a = some x → r.ownBlock ≠ some x.block
  fresh : ∀ v ∈ l, ∀ x, v.a = some x → base ≤ x.block
theorem OwnFrs.nil (w : World) (base : Nat) : OwnFrs w base (.slice none 0 0) [] := ⟨World.ownsRow_nil _ _ _ _, (fun v hv => by cases hv), (fun v hv => by cases hv), fun v hv => by cases hv⟩
theorem OwnFrs.kept {w w' : World} {base : Nat} {r : Value} {l : List FrV} (h : OwnFrs w base r l) (hb : Below w.heap.size w w') : OwnFrs w' base r l :=
  ⟨ownsRow_below h.row hb, fun v hv => isBytes_below (h.bytes v hv) hb, h.apart, h.fresh⟩
theorem OwnFrs.frames {w : World} {base : Nat} {r : Value} {l : List FrV} (h : OwnFrs w base r l) : ∃ a cap, r = .slice a l.length cap ∧ IsFrames w a l.length cap l := by
  have h0 := h.row
  rcases h.row.2 with ⟨h1, h2⟩ | ⟨g, cap, cur, h1, hg, hh, hc, hm, hsz, htk⟩
  · have hl : l = [] := List.eq_nil_of_length_eq_zero h2
    subst hl
    exact ⟨none, 0, h1, rfl, Nat.le_refl _, Nat.zero_le _, fun _ => rfl, (fun x hx => by cases hx), fun i hi => absurd hi (Nat.not_lt_zero _)⟩
  · refine ⟨some ⟨g, 0, none⟩, cap, h1, rfl, hc, hm, (fun e => by cases e), ?_, fun i hi => h.bytes _ (List.getElem_mem hi)⟩
    intro x hx i hi k hk
    cases hx
    exact h0.cells (by rw [h1]; rfl) (i * 6 + k) _ (frC_at l i k hi hk)
/-- the same, a frame more -/
theorem OwnFrs.add {w w' : World} {base : Nat} {r r' : Value} {l : List FrV} {v : FrV} (h : OwnFrs w base r l) (hv : IsBytes w v.a v.len v.cap v.f.dt)
    (hva : ∀ x, v.a = some x → r.ownBlock ≠ some x.block) (hvf : ∀ x, v.a = some x → base ≤ x.block) (hrow : w'.ownsRow base 25 6 r' (l.length + 1) (frC l ++ v.cells)) (hg : w.grownBy w' r.ownBlock) (hb : r'.ownBlock = r.ownBlock ∨ r'.ownBlock = some w.heap.size) : OwnFrs w' base r' (l ++ [v]) := by
  have hall : ∀ u ∈ l ++ [v], IsBytes w u.a u.len u.cap u.f.dt ∧ (u.f.dt ≠ [] → ∀ x, u.a = some x → r.ownBlock ≠ some x.block) := by
    intro u hu
    rcases List.mem_append.1 hu with hu | hu
    · exact ⟨h.bytes u hu, h.apart u hu⟩
    · rw [List.mem_singleton] at hu; subst hu; exact ⟨hv, fun _ => hva⟩
  refine ⟨?_, fun u hu => isBytes_grown (hall u hu).1 hg (hall u hu).2, ?_, ?_⟩
  · have e : frC (l ++ [v]) = frC l ++ v.cells := by unfold frC; rw [List.flatMap_append]; simp
    rw [e, List.length_append]; exact hrow
  · intro u hu hne x hx
    rcases hb with hb | hb
    · rw [hb]; exact (hall u hu).2 hne x hx
    · rw [hb]
      intro e
      have e' := Option.some.inj e
      have hby := (hall u hu).1
      obtain ⟨c, t, hd⟩ : ∃ c t, u.f.dt = c :: t := by cases hq : u.f.dt with | nil => exact absurd hq hne | cons c t => exact ⟨c, t, rfl⟩
      have hl : 0 < u.len := by have := hby.1; rw [hd] at this; simp at this; omega
      have hlt2 := block_lt_of_cell (hby.2.2.2.2 x hx 0 hl)
      have hblk : (x.add 0).block = x.block := by unfold Addr.add; split <;> rfl
      rw [hblk] at hlt2
      omega
  · intro u hu x hx
    rcases List.mem_append.1 hu with hu | hu
    · exact h.fresh u hu x hx
    · rw [List.mem_singleton] at hu; subst hu; exact hvf x hx
theorem wpl_load_frV {ops : Array Oper} {rest : List Oper} {dst : Option Tmp} {ty : TypeId} {pos : String} {aft : Array Edge} {a : Act} {w : World} {Q : Exit → Act → World → Prop} (x : Operand) (b o i : Nat) (A : List Ent) (n : Int) (v : FrV) (hx : a.eval x = .pointer (some ⟨b, o, none⟩)) (hL : LnAt w b A n) (ho : o = i * 7 + 1) (hi : i < A.length) (hv : A[i].v = v)
    (h : wpList Tryd.prog ops Q rest (a.put dst (.agg #[.int .i64 v.f.id, .bool v.f.lo, .bool v.f.fa, .bool v.f.re, .int .i64 v.f.sz, .slice v.a v.len v.cap])) w) :
    wpList Tryd.prog ops Q (Oper.mk dst (.load 25 x) ty pos aft none :: rest) a w := by
  subst hv
  exact wpl_load_fr x b o i A n hx hL ho hi h
theorem own_lt {w : World} {base : Nat} {t : TypeId} {size : Nat} {v : Value} {n : Nat} {xs : List Value} (h : w.ownsRow base t size v n xs) : ∀ x, v.ownBlock = some x → x < w.heap.size := by
  intro x hx
  rcases h.2 with ⟨h1, _⟩ | ⟨g, cap, cur, h1, hg, hh, _⟩
  · rw [h1] at hx; cases hx
  · rw [h1] at hx; cases hx
    exact (Array.getElem?_eq_some_iff.1 hh).1
theorem new_cells {W : World} {s : Nat} (hs : W.heap.size = s) (cs : List Value) (t : TypeId) : ∀ q u, cs[q]? = some u → (W.alloc (.cells cs.toArray t)).cell? (Addr.add ⟨s, 0, none⟩ q) = some u := by
  intro q u hq
  subst hs
  have e : (Addr.add ⟨W.heap.size, 0, none⟩ q) = ⟨W.heap.size, 0 + q, none⟩ := Addr.add_mid _ _ _
  rw [e, Nat.zero_add, cell_of_row _ _ q _ _ _ (heap_alloc_new W _), List.getElem?_toArray]
  exact hq
def entOf (v : FrV) : Ent := ⟨nameL v.f, v⟩
set_option maxHeartbeats 8000000 in
set_option maxRecDepth 100000 in
theorem framesOf_A (A : List Ent) (N : Nat) (w : World) (hA : A.length = 32) (hn : N ≤ 32) (hY : ∀ i (h : i < A.length), i < N → IsBytes w A[i].v.a A[i].v.len A[i].v.cap A[i].v.f.dt) (hE : ∀ i (h : i < A.length), i < N → A[i].v.f.dt.length ≤ 64) :
    Calls Tryd.prog 30 #[.agg (lnC A N).toArray] w fun e w' => ∃ r l', e = .returned r ∧ l'.length = N ∧ l'.map (·.f) = (A.take N).map (·.v.f) ∧ OwnFrs w' (w.heap.size + 1) r l' ∧ Below w.heap.size w w' := by
  obtain ⟨i0, hi, hz0, hz1, hz2⟩ := info_parts info_fr
  have hL0 := LnAt.new w A N hA
  have hB0 : Below w.heap.size w (w.alloc (lnO A N)) := (Below.refl _ _).alloc (Nat.le_refl _) _
  unfold lnO at hL0 hB0
  have c224 := hL0.size
  have K0 := Hid.mk hL0
  have KB := Hid.mk hB0
  have HY := Hid.mk hY
  have HE := Hid.mk hE
  clear hL0 hB0 hY hE
  generalize hCe : (lnC A N).toArray = C at *
  clear hCe
  go_enter Tryd.func30, Tryd.ntmps30
  go_wp2_with fail
  go_loopw [3, 8] (fun r i wr => ∃ (k : Nat) (l' : List FrV), k ≤ N ∧ i = .int .i64 k ∧ Hid (l'.length = k ∧ l'.map (·.f) = (A.take k).map (·.v.f)) ∧ Hid (OwnFrs wr (w.heap.size + 1) r l') ∧ Hid (LnAt wr w.heap.size A N) ∧ Hid (Below (w.heap.size + 1) (w.alloc (Obj.cells C 55)) wr)) (fun _ i _ => N - (intOf i).toNat)
  case atStart => exact ⟨0, [], Nat.zero_le _, rfl, Hid.mk ⟨rfl, rfl⟩, Hid.mk (OwnFrs.nil _ _), K0, Hid.mk (Below.refl _ _)⟩
  case round =>
    obtain ⟨k, l', hk, rfl, HM, HO, HL, HB⟩ := hrel
    by_cases hlt : k < N
    · have hlt' : (k : Int) < (N : Int) := by omega
      have hkA : k < A.length := by omega
      have hby := HY.out k hkA hlt
      have h64 := HE.out k hkA hlt
      have htk : (A.take (k + 1)).map (·.v.f) = (A.take k).map (·.v.f) ++ [A[k].v.f] := by rw [List.take_succ_eq_append_getElem hkA, List.map_append]; rfl
      obtain ⟨v, hkv⟩ : ∃ v, A[k].v = v := ⟨_, rfl⟩
      rw [hkv] at hby h64 htk
      obtain ⟨⟨id, lo, fa, re, sz, dt⟩, va, vl, vc⟩ := v
      simp only at hby h64 htk
      have hbw : Below w.heap.size w wr := KB.out.trans (HB.out.mono (Nat.le_succ _))
      have hby1 := isBytes_below hby hbw
      have hbx := below_box wr id lo fa re sz va vl vc
      have hby2 := isBytes_below hby1 hbx
      have hcl := cloneB_any va vl vc dt _ hby2 (by have := hby.1; omega)
      have hfr := heap_alloc_new wr (frameC id lo fa re sz va vl vc)
      have hsz : (wr.alloc (frameC id lo fa re sz va vl vc)).heap.size = wr.heap.size + 1 := by simp
      have HLT := Hid.mk (own_lt HO.out.row)
      have hszw : w.heap.size + 1 ≤ wr.heap.size := by have := HB.out.size; simpa using this
      have HSW := Hid.mk hszw
      have HBX := Hid.mk hbx
      have HCL := Hid.mk hcl
      have HFR := Hid.mk hfr
      have HTK := Hid.mk htk
      have HSZ := Hid.mk hsz
      have HML := Hid.mk HM.out.1
      unfold frameC at HBX HCL HFR HSZ
      clear hby hby1 hby2 hbx hcl hfr htk hbw hsz h64 hszw
      go_wp2_with (first | ((with_reducible_and_instances refine wpl_load_frV (.tmp 14) w.heap.size (k * 7 + 1) k A N ⟨⟨id, lo, fa, re, sz, dt⟩, va, vl, vc⟩ ?_ HL.out rfl hkA hkv ?_); rfl))
      refine HCL.out.mono ?_
      rintro e w2 ⟨a2, c2, rfl, hY2, hblk2, hb2⟩
      have hbr2 := bl2 HBX.out hb2
      rw [HSZ.out] at hb2 hblk2
      have r1 := (hb2.block wr.heap.size (by omega)).trans HFR.out
      have hsz2 : wr.heap.size + 1 ≤ w2.heap.size := by have := hb2.size; rw [HSZ.out] at this; exact this
      have q0 := cell_of_row w2 wr.heap.size 0 _ _ _ r1
      simp at q0
      have q1 := cell_of_row w2 wr.heap.size 1 _ _ _ r1
      simp at q1
      have q2 := cell_of_row w2 wr.heap.size 2 _ _ _ r1
      simp at q2
      have q3 := cell_of_row w2 wr.heap.size 3 _ _ _ r1
      simp at q3
      have q4 := cell_of_row w2 wr.heap.size 4 _ _ _ r1
      simp at q4
      have q5 := cell_of_row w2 wr.heap.size 5 _ _ _ r1
      simp at q5
      have f5 := frozen_of_row w2 wr.heap.size 5 _ _ r1
      have r2 := heap_setCell_same w2 wr.heap.size 5 _ _ (.slice a2 vl c2) r1
      simp only [List.setIfInBounds_toArray, List.set_cons_zero, List.set_cons_succ] at r2
      have s5 := cell_of_row _ wr.heap.size 5 _ _ _ r2
      simp at s5
      have hT : Tch [wr.heap.size] w2 (w2.setCell ⟨wr.heap.size, 5, none⟩ (.slice a2 vl c2)) := (Tch.refl _ _).setK (by simp) _ _
      have HY3 := Hid.mk (isBytes_tchO hY2 hT (by intro x hx; have := hblk2 x hx; simp; omega))
      have hbr3 := Tch.below hbr2 hT (by simp) (Nat.le_refl _)
      have HO3 := Hid.mk (HO.out.kept hbr3)
      have HL3 := Hid.mk (HL.out.kept hbr3)
      have HB3 := Hid.mk (HB.out.trans (hbr3.mono HSW.out))
      have hs3 : (w2.setCell ⟨wr.heap.size, 5, none⟩ (.slice a2 vl c2)).heap.size = w2.heap.size := by simp
      have HS3 := Hid.mk hs3
      have HBL := Hid.mk hblk2
      have HS2 := Hid.mk hsz2
      clear hbr2 hb2 r1 r2 hT hbr3 hY2 hblk2 hs3 hsz2
      go_wp2_with (at_builtin; refine wpList_append_two rfl (.tmp 20) (.tmp 22) 22 rfl (w.heap.size + 1) 25 i0 (.agg #[.int .i64 0, .bool false, .bool false, .bool false, .int .i64 0, .slice none 0 0]) 6 48 Tryd.underlying22 hi hz0 hz1 hz2 rfl (by decide) _ _ _ rfl (HO3.out.row.alloc _) ⟨w2.heap.size, 0, none⟩ 1 1 [.int .i64 id, .bool lo, .bool fa, .bool re, .int .i64 sz, .slice a2 vl c2] rfl rfl (new_cells HS3.out _ _) (by intro u hu; simp at hu; rcases hu with rfl | rfl | rfl | rfl | rfl | rfl <;> rfl) (by decide) (by have := HML.out; unfold maxLen; omega) (by have := HML.out; omega) (by have := HSW.out; have := HS2.out; simp; omega) ?_; intro v3 w3 hown3 hgrow3 hblk3)
      have hb4 : Below (w2.setCell ⟨wr.heap.size, 5, none⟩ (.slice a2 vl c2)).heap.size (w2.setCell ⟨wr.heap.size, 5, none⟩ (.slice a2 vl c2)) ((w2.setCell ⟨wr.heap.size, 5, none⟩ (.slice a2 vl c2)).alloc (.cells #[.int .i64 id, .bool lo, .bool fa, .bool re, .int .i64 sz, .slice a2 vl c2] 25)) := (Below.refl _ _).alloc (Nat.le_refl _) _
      have hO4 := (HO3.out.kept hb4).add (v := ⟨⟨id, lo, fa, re, sz, dt⟩, a2, vl, c2⟩) (isBytes_below HY3.out hb4) (by intro x hx e; have := HBL.out x hx; have := HLT.out _ e; omega) (by intro x hx; have := HBL.out x hx; have := HSW.out; omega) hown3 hgrow3 hblk3
      have hwle : w.heap.size + 1 ≤ (w2.setCell ⟨wr.heap.size, 5, none⟩ (.slice a2 vl c2)).heap.size := by rw [HS3.out]; have := HSW.out; have := HS2.out; omega
      have hB5 := Below.grown (HB3.out.trans (hb4.mono hwle)) hgrow3 (by simp; have := HSW.out; have := HS2.out; omega) (fun q hq => (HO3.out.row.lt q hq).1)
      have hL5 : LnAt w3 w.heap.size A N := K0.out.kept (by have : (w.alloc (Obj.cells C 55)).heap.size = w.heap.size + 1 := by simp
                                                            rw [this]; exact hB5)
      clear hown3 hgrow3 hblk3 hb4
      go_wp2_with fail
      go_roundw
      case rel => exact ⟨k + 1, l' ++ [⟨⟨id, lo, fa, re, sz, dt⟩, a2, vl, c2⟩], by omega, by go_num, Hid.mk ⟨by rw [List.length_append, HML.out]; rfl, by rw [List.map_append, HM.out.2, HTK.out]; rfl⟩, Hid.mk hO4, Hid.mk hL5, Hid.mk hB5⟩
      case measure => simp [intOf]; omega
    · obtain rfl : k = N := by omega
      go_wp2_with fail
      go_ret
      exact ⟨_, l', rfl, HM.out.1, HM.out.2, HO.out, KB.out.trans (HB.out.mono (Nat.le_succ _))⟩
end Bw
end Go.Proofs.YthdffdobkampaaaDoor

/- What frame.bit answers. -/
namespace Go.Proofs.YthdffdobkampaaaDoor
open Go.ChangeShapes Go.WideShapes Go.ChangeAt Go.RowKit
namespace Bw
open Bm Cm
set_option maxHeartbeats 1000000 in
theorem frBit_any (r : Bool) (w : World) :
    Calls Tryd.prog 57 #[.bool r] w fun e w' => e = .returned (.string ⟨#[bitB r]⟩) ∧ w' = w := by
  cases r <;> (go_enter Tryd.func57, Tryd.ntmps57; go_wp2_with fail; go_ret; exact ⟨rfl, rfl⟩)
end Bw
end Go.Proofs.YthdffdobkampaaaDoor

/- What bits.appendBits and bits.Row answer: the bits of a number behind a row that the call owns, and the row of any number in any size, errors too. -/
namespace Go.Proofs.YthdffdobkampaaaDoor
open Go.ChangeShapes Go.WideShapes Go.ChangeAt Go.RowKit
namespace Bw
open Bm

set_option maxHeartbeats 2000000 in
theorem appendBits_any (v : Value) (k : Nat) (l : List UInt8) (n size : Nat) (w : World) (base : Nat) (hb : base ≤ w.heap.size) (hl : l.length = k) (hk : k ≤ 100000)
    (hn : n < 2 ^ 63) (hsize : size ≤ 62) (hown : w.ownsRow base 5 1 v k (cellsOf l)) :
    Calls Tryd.prog 67 #[v, .int .i64 n, .int .i64 size] w fun e w' => ∃ v', e = .returned v' ∧ w'.ownsRow base 5 1 v' (k + size) (cellsOf (l ++ bitsHead n size size)) ∧ Below base w w' := by
  obtain ⟨i0, hi, hz0, hz1, hz2⟩ := info_parts info_u8
  go_enter Tryd.func67, Tryd.ntmps67
  go_wp2
  go_loopw [0, 9] (fun r i wr => ∃ j : Nat, j ≤ size ∧ i = .int .i64 j ∧ wr.ownsRow base 5 1 r (k + j) (cellsOf (l ++ bitsHead n size j)) ∧ Below base w wr) (fun _ i _ => size - (intOf i).toNat)
  case atStart => exact ⟨0, Nat.zero_le _, rfl, by simpa [bitsHead] using hown, Below.refl _ _⟩
  case round =>
    obtain ⟨j, hj, rfl, hownr, hbel⟩ := hrel
    by_cases hlt : j < size
    · have HV : Hid (Value.int .u8 ((48 + bits .and .i64 ((n : Int) / 2 ^ (size - 1 - j)) 1) % 256) = Value.int .u8 (bitAt n (size - 1 - j)).toNat) := bit_cell n (size - 1 - j) hn
      have hlen : base ≤ wr.heap.size := Nat.le_trans hb hbel.size
      go_wp2_with (at_builtin; refine wpList_append_own _ rfl (.tmp 12) (.tmp 22) 23 rfl base 5 i0 (.int .u8 0) 1 1 Tryd.underlying23 hi hz0 hz1 hz2 rfl (by decide) _ _ _ rfl (hownr.alloc _) ⟨wr.heap.size, 0, none⟩ 1 1 [Value.int .u8 ((48 + bits .and .i64 ((n : Int) / 2 ^ (size - 1 - j)) 1) % 256)] rfl rfl (by intro q u hq; match q, hq with | 0, hq => (simp at hq; subst hq; simp [Addr.add])) (by intro u hu; simp at hu; subst hu; rfl) (by unfold maxLen; omega) (by omega) (by simp; omega) ?_; intro v' w1 hown' hgrow _)
      have hbel1 : Below base w w1 := Below.grown (hbel.alloc hlen _) hgrow (by simp; omega) (fun q hq => (hownr.lt q hq).1)
      have hown2 : w1.ownsRow base 5 1 v' (k + (j + 1)) (cellsOf (l ++ bitsHead n size (j + 1))) := by
        rw [bitsHead_succ, ← List.append_assoc, cellsOf_append _ [_]]
        have e : cellsOf [bitAt n (size - 1 - j)] = [Value.int .u8 ((48 + bits .and .i64 ((n : Int) / 2 ^ (size - 1 - j)) 1) % 256)] := by rw [HV.out]; rfl
        rw [e]; exact hown'
      clear hown' hgrow hownr
      go_wp2
      go_roundw
      case rel => exact ⟨j + 1, by omega, by go_num, hown2, hbel1⟩
      case measure => simp [intOf]; omega
    · have e : j = size := by omega
      subst e
      go_wp2_with fail
      go_ret
      exact ⟨_, rfl, hownr, hbel⟩

set_option maxHeartbeats 1000000 in
theorem row_many (n size : Int) (w : World) (h : size < 0 ∨ 62 < size) :
    Calls Tryd.prog 56 #[.int .i64 n, .int .i64 size] w fun e w' => e = .returned (.tuple #[.string ⟨#[]⟩, .int .i64 2]) ∧ w' = w := by
  by_cases h1 : size < 0
  · go_enter Tryd.func56, Tryd.ntmps56
    go_wp2_with fail
    go_ret2
    exact ⟨rfl, rfl⟩
  · have h2 : 62 < size := by omega
    clear h
    have hd : decide (size < 0) = false := by simpa using h1
    go_enter Tryd.func56, Tryd.ntmps56
    go_wp2_with fail
    go_ret2
    exact ⟨rfl, rfl⟩

set_option maxHeartbeats 1000000 in
theorem row_range (n size : Int) (w : World) (h0 : 0 ≤ size) (h1 : size ≤ 62) (h : n < 0 ∨ 2 ^ size.toNat ≤ n) :
    Calls Tryd.prog 56 #[.int .i64 n, .int .i64 size] w fun e w' => e = .returned (.tuple #[.string ⟨#[]⟩, .int .i64 3]) ∧ w' = w := by
  by_cases hn : n < 0
  · clear h
    go_enter Tryd.func56, Tryd.ntmps56
    go_wp2_with fail
    go_ret2
    exact ⟨rfl, rfl⟩
  · have h2 : 2 ^ size.toNat ≤ n := by omega
    have hq : (n / 2 ^ size.toNat == 0) = false := by
      have hp : (0 : Int) < 2 ^ size.toNat := Int.pow_pos (by omega)
      have : 1 ≤ n / 2 ^ size.toNat := (Int.le_ediv_iff_mul_le hp).2 (by omega)
      simp; omega
    clear h h2
    go_enter Tryd.func56, Tryd.ntmps56
    go_wp2_with fail
    go_ret2
    exact ⟨rfl, rfl⟩

set_option maxHeartbeats 1000000 in
theorem row_ok (n size : Nat) (w : World) (h1 : size ≤ 62) (h : n < 2 ^ size) :
    Calls Tryd.prog 56 #[.int .i64 n, .int .i64 size] w fun e w' => e = .returned (.tuple #[.string ⟨(bitsHead n size size).toArray⟩, .int .i64 0]) ∧ Below w.heap.size w w' := by
  have hq : (n : Int) / 2 ^ size = 0 := by
    have : n / 2 ^ size = 0 := Nat.div_eq_of_lt h
    have e : (n : Int) / 2 ^ size = ((n / 2 ^ size : Nat) : Int) := by simp
    rw [e, this]; rfl
  have hn : n < 2 ^ 63 := Nat.lt_of_lt_of_le h (Nat.pow_le_pow_right (by omega) (by omega))
  have HN : Hid (n < 2 ^ 63) := hn
  clear h hn
  go_enter Tryd.func56, Tryd.ntmps56
  go_wp2_with fail
  refine (appendBits_any (.slice none 0 0) 0 [] n size w w.heap.size (Nat.le_refl _) rfl (by omega) HN.out h1 (World.ownsRow_nil _ _ _ _)).mono ?_
  rintro e w1 ⟨v', rfl, hown, hbel⟩
  have hcv := convert_own hown
  clear hown
  go_wp2_with fail
  go_ret2
  exact ⟨rfl, hbel⟩
end Bw
end Go.Proofs.YthdffdobkampaaaDoor

/- What frame.name and form answer. -/
namespace Go.Proofs.YthdffdobkampaaaDoor
open Go.ChangeShapes Go.WideShapes Go.ChangeAt Go.RowKit
namespace Bw
open Bm Cm

theorem head_take (n : Nat) : bitsHead (n / 262144) 11 11 = (bitsHead n 29 29).take 11 := by
  unfold bitsHead
  rw [← List.map_take, List.take_range]
  apply List.map_congr_left
  intro i hi
  have hi' : i < 11 := by simpa using hi
  unfold bitAt
  have e : n / 262144 / 2 ^ (11 - 1 - i) = n / 2 ^ (29 - 1 - i) := by
    rw [Nat.div_div_eq_div_mul, show (262144 : Nat) = 2 ^ 18 by rfl, ← Nat.pow_add, show 18 + (11 - 1 - i) = 29 - 1 - i by omega]
  rw [e]
theorem head_drop (n : Nat) : bitsHead (n % 262144) 18 18 = (bitsHead n 29 29).drop 11 := by
  apply List.ext_getElem
  · simp [bitsHead_length]
  intro i h1 h2
  have hi : i < 18 := by simpa [bitsHead_length] using h1
  simp only [bitsHead, List.getElem_map, List.getElem_drop, List.getElem_range]
  unfold bitAt
  have e : n % 262144 / 2 ^ (18 - 1 - i) % 2 = n / 2 ^ (29 - 1 - (11 + i)) % 2 := by
    rw [show 29 - 1 - (11 + i) = 18 - 1 - i by omega, show (262144 : Nat) = 2 ^ 18 by rfl]
    have h := Nat.testBit_mod_two_pow n 18 (18 - 1 - i)
    have hd : decide (18 - 1 - i < 18) = true := by simp; omega
    rw [hd, Bool.true_and, Nat.testBit_eq_decide_div_mod_eq, Nat.testBit_eq_decide_div_mod_eq] at h
    have h' : (n % 2 ^ 18 / 2 ^ (18 - 1 - i) % 2 = 1) ↔ (n / 2 ^ (18 - 1 - i) % 2 = 1) := by simpa using h
    omega
  rw [e]
theorem and_low (n : Nat) (h : n < 2 ^ 29) : bits .and .i64 (n : Int) 262143 = ((n % 262144 : Nat) : Int) := by
  have := bits_mask .i64 63 (by decide) (fun n h0 h1 => by rw [IntKind.wrap_i64]; omega) 18 (by decide) (n : Int) (by omega) (by omega)
  simpa using this

set_option maxHeartbeats 4000000 in
theorem name_shortP (n : Nat) (fa re : Bool) (sz : Int) (a : Option Addr) (len cap : Nat) (w : World) (hn : n < 2 ^ 11) :
    Calls Tryd.prog 43 #[frameV n false fa re sz a len cap] w fun e w' => e = .returned (.string ⟨(bitsHead n 11 11 ++ [bitB re, 48]).toArray⟩) ∧ Below w.heap.size w w' := by
  have hB := below_box w n false fa re sz a len cap
  have hK := FrAt.box w n false fa re sz a len cap
  unfold frameC at hB hK
  unfold frameV
  have hr := fun W => row_ok n 11 W (by omega) hn
  have hS := mk_list (bitsHead n 11 11)
  generalize ByteArray.mk (bitsHead n 11 11).toArray = S at *
  have hSs : S.size ≤ 11 := by rw [ba_size hS, bitsHead_length]; exact Nat.le_refl _
  have hBs : (ByteArray.mk #[bitB re]).size = 1 := rfl
  have hbl : (ByteArray.mk #[bitB re]).data.toList = [bitB re] := rfl
  have hfb := fun W => frBit_any re W
  generalize ByteArray.mk #[bitB re] = B at *
  have hBm : B.size ≤ 1 := by omega
  have HSL := Hid.mk hS
  have HR := Hid.mk hr
  have HBL := Hid.mk hbl
  have HFB := Hid.mk hfb
  have HK := Hid.mk hK
  clear hr hn hS hbl hfb hBs hK
  go_enter Tryd.func43, Tryd.ntmps43
  go_wp2_with fail
  refine (HR.out _).mono ?_
  rintro e w1 ⟨rfl, hb1⟩
  have hbel1 := bl2 hB hb1
  have k3 := (HK.out.kept hb1).c3
  clear hB hb1 HR HK
  go_wp2_with fail
  refine (HFB.out _).mono ?_
  rintro e w2 ⟨rfl, hw⟩
  subst hw
  go_wp2_with fail
  go_ret
  exact ⟨ret_str1 (by rw [ba_cat, ba_cat, HSL.out, HBL.out]; simp), hbel1⟩
set_option maxHeartbeats 4000000 in
theorem name_longP (n : Nat) (fa re : Bool) (sz : Int) (a : Option Addr) (len cap : Nat) (w : World) (hn : n < 2 ^ 29) :
    Calls Tryd.prog 43 #[frameV n true fa re sz a len cap] w fun e w' => e = .returned (.string ⟨((bitsHead n 29 29).take 11 ++ [49, 49] ++ (bitsHead n 29 29).drop 11 ++ [bitB re]).toArray⟩) ∧ Below w.heap.size w w' := by
  have hB := below_box w n true fa re sz a len cap
  have hK := FrAt.box w n true fa re sz a len cap
  unfold frameC at hB hK
  unfold frameV
  have hr := fun W => row_ok (n / 262144) 11 W (by omega) (by omega)
  have hr2 := fun W => row_ok (n % 262144) 18 W (by omega) (by omega)
  have e1 : (n : Int) / 262144 = ((n / 262144 : Nat) : Int) := by omega
  have e2 := and_low n hn
  rw [← e1] at hr
  rw [← e2] at hr2
  have hS := mk_list (bitsHead (n / 262144) 11 11)
  generalize ByteArray.mk (bitsHead (n / 262144) 11 11).toArray = S at *
  have hSs : S.size ≤ 11 := by rw [ba_size hS, bitsHead_length]; exact Nat.le_refl _
  have hS2 := mk_list (bitsHead (n % 262144) 18 18)
  generalize ByteArray.mk (bitsHead (n % 262144) 18 18).toArray = S2 at *
  have hSs2 : S2.size ≤ 18 := by rw [ba_size hS2, bitsHead_length]; exact Nat.le_refl _
  have hBs : (ByteArray.mk #[bitB re]).size = 1 := rfl
  have hbl : (ByteArray.mk #[bitB re]).data.toList = [bitB re] := rfl
  have hfb := fun W => frBit_any re W
  generalize ByteArray.mk #[bitB re] = B at *
  have hBm : B.size ≤ 1 := by omega
  rw [head_take] at hS
  rw [head_drop] at hS2
  have HSL := Hid.mk hS
  have HSL2 := Hid.mk hS2
  have HR := Hid.mk hr
  have HR2 := Hid.mk hr2
  have HBL := Hid.mk hbl
  have HFB := Hid.mk hfb
  have HK := Hid.mk hK
  clear hr hr2 hn hS hS2 hbl hfb hBs hK e1 e2
  go_enter Tryd.func43, Tryd.ntmps43
  go_wp2_with fail
  refine (HR.out _).mono ?_
  rintro e w1 ⟨rfl, hb1⟩
  have hbel1 := bl2 hB hb1
  have k0 := (HK.out.kept hb1).c0
  have HK1 := Hid.mk (HK.out.kept hb1)
  clear hB hb1 HR HK
  go_wp2_with fail
  refine (HR2.out _).mono ?_
  rintro e w2 ⟨rfl, hb2⟩
  have hbel2 := bl2 hbel1 hb2
  have k3 := (HK1.out.kept hb2).c3
  clear hbel1 hb2 HR2 HK1 k0
  go_wp2_with fail
  refine (HFB.out _).mono ?_
  rintro e w3 ⟨rfl, hw⟩
  subst hw
  go_wp2_with fail
  go_ret
  exact ⟨ret_str1 (by rw [ba_cat, ba_cat, ba_cat, HSL.out, HSL2.out, HBL.out]), hbel2⟩
theorem name_any (f : Fr) (a : Option Addr) (len cap : Nat) (w : World) (h0 : 0 ≤ f.id) (h1 : f.id ≤ topI f.lo) :
    Calls Tryd.prog 43 #[frameV f.id f.lo f.fa f.re f.sz a len cap] w fun e w' => e = .returned (.string ⟨(nameL f).toArray⟩) ∧ Below w.heap.size w w' := by
  obtain ⟨id, lo, fa, re, sz, dt⟩ := f
  obtain ⟨n, rfl⟩ : ∃ n : Nat, id = (n : Int) := ⟨id.toNat, by simp only at h0; omega⟩
  simp only at h0 h1 ⊢
  cases lo
  · exact name_shortP n fa re sz a len cap w (by simp [topI] at h1; omega)
  · exact name_longP n fa re sz a len cap w (by simp [topI] at h1; omega)

end Bw
end Go.Proofs.YthdffdobkampaaaDoor

/- What frame.Name answers. -/
namespace Go.Proofs.YthdffdobkampaaaDoor
open Go.ChangeShapes Go.WideShapes Go.ChangeAt Go.RowKit
namespace Bw
open Bm Cm

def nameA (f : Fr) : Value := if frE f = 0 then .tuple #[.string ⟨(nameL f).toArray⟩, .int .i64 0] else .tuple #[.string ⟨#[]⟩, .int .i64 (frE f)]
set_option maxHeartbeats 4000000 in
theorem frName_any (f : Fr) (a : Option Addr) (len cap : Nat) (w : World) (hS : SizesAt w) (hl : len ≤ maxLen) (hd : f.dt.length = len) :
    Calls Tryd.prog 26 #[frameV f.id f.lo f.fa f.re f.sz a len cap] w fun e w' => e = .returned (nameA f) ∧ Below w.heap.size w w' := by
  have hB := below_box w f.id f.lo f.fa f.re f.sz a len cap
  have hK := FrAt.box w f.id f.lo f.fa f.re f.sz a len cap
  have hck := frCheck_any f.id f.lo f.fa f.re f.sz a len cap _ (hS.kept hB) hl
  have hE : frEn f.id f.lo f.fa f.re f.sz len = frE f := by unfold frE; rw [hd]
  rw [hE] at hck
  have hnm := fun W h0 h1 => name_any f a len cap W h0 h1
  have hok := fun h => frE_ok (f := f) h
  unfold frameC at hB hK hck
  unfold frameV at hnm hck ⊢
  unfold nameA
  have HK := Hid.mk hK
  have HCK := Hid.mk hck
  have HNM := Hid.mk hnm
  have HOK := Hid.mk hok
  clear hS hl hd hK hck hnm hE hok
  by_cases hE : frE f = 0
  · rw [if_pos hE]
    obtain ⟨q1, q2, -⟩ := HOK.out hE
    have HQ1 := Hid.mk q1
    have HQ2 := Hid.mk q2
    rw [hE] at HCK
    clear hE q1 q2
    go_enter Tryd.func26, Tryd.ntmps26
    go_wp2_with fail
    refine HCK.out.mono ?_
    rintro e w1 ⟨rfl, hb1⟩
    have hbel1 := bl2 hB hb1
    obtain ⟨k0, k1, k2, k3, k4, k5⟩ := HK.out.kept hb1
    clear hB hb1
    go_wp2_with fail
    refine (HNM.out _ HQ1.out HQ2.out).mono ?_
    rintro e w2 ⟨rfl, hb2⟩
    have hbel2 := bl2 hbel1 hb2
    clear hbel1 hb2 k0 k1 k2 k3 k4 k5
    go_wp2_with fail
    go_ret2
    exact ⟨rfl, hbel2⟩
  · rw [if_neg hE]
    have hne : (frE f != 0) = true := by simpa using hE
    generalize frE f = ce at *
    go_enter Tryd.func26, Tryd.ntmps26
    go_wp2_with fail
    refine HCK.out.mono ?_
    rintro e w1 ⟨rfl, hb1⟩
    have hbel1 := bl2 hB hb1
    clear hB hb1
    go_wp2_with fail
    go_ret2
    exact ⟨rfl, hbel1⟩

end Bw
end Go.Proofs.YthdffdobkampaaaDoor

/- What queue.lineOf answers: a queue as a line, or what is wrong with it. -/
namespace Go.Proofs.YthdffdobkampaaaDoor
open Go.ChangeShapes Go.WideShapes Go.ChangeAt Go.RowKit
namespace Bw
open Bm Cm
/-- the first k of a queue in a line -/
def padA (l : List FrV) (k : Nat) : List Ent := (l.take k).map entOf ++ List.replicate (32 - k) zE
theorem padA_len (l : List FrV) (k : Nat) (h : k ≤ l.length) (h2 : k ≤ 32) : (padA l k).length = 32 := by
  unfold padA
  rw [List.length_append, List.length_map, List.length_take, List.length_replicate]; omega
theorem padA_set (l : List FrV) (k : Nat) (h : k < l.length) (h2 : k < 32) : (padA l k).set k (entOf l[k]) = padA l (k + 1) := by
  unfold padA
  have hl : ((l.take k).map entOf).length = k := by rw [List.length_map, List.length_take]; omega
  rw [List.set_append_right _ _ (by omega), hl, Nat.sub_self, List.take_succ_eq_append_getElem h, List.map_append]
  obtain ⟨q, hq⟩ : ∃ q, 32 - k = q + 1 := ⟨31 - k, by omega⟩
  have hq2 : 32 - (k + 1) = q := by omega
  rw [hq, hq2, List.replicate_succ, List.set_cons_zero, List.append_assoc]
  rfl
theorem padA_name (l : List FrV) (k j : Nat) (hj : j < k) (h : k ≤ l.length) (h2 : k ≤ 32) : (padA l k)[j]'(by rw [padA_len l k h h2]; omega) = entOf (l[j]'(by omega)) := by
  unfold padA
  rw [List.getElem_append_left (by rw [List.length_map, List.length_take]; omega), List.getElem_map, List.getElem_take]
theorem padA_zero (l : List FrV) : padA l 0 = List.replicate 32 zE := rfl
theorem line_results {fn : Func} {p u : Tmp} (hr : fn.results = #[.cell p 55, .tmp u]) (tmps : Array Value) (w : World) (b : Nat) (A : List Ent) (n : Int) (y : Value) (hp : tmps.getD p undef = .pointer (some ⟨b, 0, none⟩)) (hy : tmps.getD u undef = y) (h : LnAt w b A n) :
    (results fn tmps).run Tryd.prog w = .ok (.tuple #[.agg (lnC A n).toArray, y]) w := by
  have hl := run_loadVar_row (P := Tryd.prog) w b 55 55 _ (0, 0) _ h.row Tryd.underlying55 rfl (by rw [line_info, lnC_arr _ _ h.len])
  have hp' : tmps[p]?.getD undef = .pointer (some ⟨b, 0, none⟩) := by simpa using hp
  have hy' : tmps[u]?.getD undef = y := by simpa using hy
  simp [results, hr, hp', hy', asAddr, hl]
theorem wpl_store_zero {ops : Array Oper} {rest : List Oper} {dst : Option Tmp} {ty : TypeId} {pos : String} {aft : Array Edge} {a : Act} {w : World} {Q : Exit → Act → World → Prop} (x y : Operand) (b : Nat) (A : List Ent) (n : Int) (hx : a.eval x = .pointer (some ⟨b, 0, none⟩)) (hy : a.eval y = .agg Tryd.zeroCells55) (hL : LnAt w b A n)
    (h : ∀ w', LnAt w' b (List.replicate 32 zE) 0 → Tch [b] w w' → wpList Tryd.prog ops Q rest (a.put dst undef) w') :
    wpList Tryd.prog ops Q (Oper.mk dst (.store 55 x y) ty pos aft none :: rest) a w :=
  wpl_store_line x y b A _ n 0 hx (by rw [hy, zero_line]) hL (by simp) h
def lineL (l : List FrV) : List Value := if chkQ (l.map (·.f)) = 0 then lnC (padA l l.length) l.length else lnC (List.replicate 32 zE) 0
theorem add_nextQ (x : Addr) (m j : Nat) : x.add (m + (j + 1)) = ⟨(x.add m).block, (x.add m).off + (j + 1), none⟩ := by
  unfold Addr.add
  by_cases h : m = 0
  · subst h; simp
  · simp [h]; omega
theorem map_f (l : List FrV) (k : Nat) (h : k < l.length) : (l.map (·.f)).getD k ⟨0, false, false, false, 0, []⟩ = l[k].f := by simp [List.getD, h]
set_option maxHeartbeats 4000000 in
set_option maxRecDepth 100000 in
theorem lineOf_many (a : Option Addr) (n cap : Nat) (l : List FrV) (w : World) (hF : IsFrames w a n cap l) (hm : 16 < n) :
    Calls Tryd.prog 31 #[.slice a n cap] w fun e w' => e = .returned (.tuple #[.agg (lineL l).toArray, .int .i64 (chkQ (l.map (·.f)))]) ∧ Below w.heap.size w w' := by
  have hc : chkQ (l.map (·.f)) = 2 := by unfold chkQ; rw [if_pos (by rw [List.length_map, hF.len]; exact hm)]
  have hll : lineL l = lnC (List.replicate 32 zE) 0 := by unfold lineL; rw [if_neg (by rw [hc]; decide)]
  rw [hc, hll]
  have hmx : n ≤ maxLen := Nat.le_trans hF.le hF.max
  have hL0 := LnAt.new w (List.replicate 32 zE) 0 (by simp)
  have hB0 : Below w.heap.size w (w.alloc (lnO (List.replicate 32 zE) 0)) := (Below.refl _ _).alloc (Nat.le_refl _) _
  unfold lnO at hL0 hB0
  rw [← zero_line] at hL0 hB0
  have K0 := Hid.mk hL0
  have KB := Hid.mk hB0
  have hm' : (16 : Int) < (n : Int) := by omega
  clear hL0 hB0 hF hc hll
  go_enter Tryd.func31, Tryd.ntmps31
  go_wp2_with (first | ((with_reducible_and_instances refine wpl_store_zero (.tmp 2) (.tmp 12) w.heap.size (List.replicate 32 zE) 0 ?_ ?_ K0.out ?_); rfl; rfl; intro w5 hL5 hT5))
  refine bodyPost_ret (line_results rfl _ _ w.heap.size _ _ _ rfl rfl hL5) rfl ?_
  exact ⟨rfl, Tch.below KB.out hT5 (by simp) (Nat.le_refl _)⟩
set_option maxHeartbeats 8000000 in
set_option maxRecDepth 100000 in
theorem lineOf_few (a : Option Addr) (n cap : Nat) (l : List FrV) (w : World) (hS : SizesAt w) (hF : IsFrames w a n cap l) (hm : n ≤ 16) :
    Calls Tryd.prog 31 #[.slice a n cap] w fun e w' => e = .returned (.tuple #[.agg (lineL l).toArray, .int .i64 (chkQ (l.map (·.f)))]) ∧ Below w.heap.size w w' := by
  have hc : chkQ (l.map (·.f)) = chkK (l.map (·.f)) n := by unfold chkQ; rw [if_neg (by rw [List.length_map, hF.len]; omega), List.length_map, hF.len]
  have hmx : n ≤ maxLen := Nat.le_trans hF.le hF.max
  have hL0 := LnAt.new w (List.replicate 32 zE) 0 (by simp)
  have hB0 : Below w.heap.size w (w.alloc (lnO (List.replicate 32 zE) 0)) := (Below.refl _ _).alloc (Nat.le_refl _) _
  have hL1 := LnAt.new (w.alloc (lnO (List.replicate 32 zE) 0)) (List.replicate 32 zE) 0 (by simp)
  have hB1 : Below (w.alloc (lnO (List.replicate 32 zE) 0)).heap.size (w.alloc (lnO (List.replicate 32 zE) 0)) ((w.alloc (lnO (List.replicate 32 zE) 0)).alloc (lnO (List.replicate 32 zE) 0)) := (Below.refl _ _).alloc (Nat.le_refl _) _
  have hs1 : (w.alloc (lnO (List.replicate 32 zE) 0)).heap.size = w.heap.size + 1 := by simp
  have k0 := hL0.kept hB1
  have kb := bl2 hB0 hB1
  rw [hs1] at hL1
  unfold lnO at k0 hL1 kb
  rw [← zero_line] at k0 hL1 kb
  have K0 := Hid.mk k0
  have K1 := Hid.mk hL1
  have KB := Hid.mk kb
  have hm' : ¬ (16 : Int) < (n : Int) := by omega
  have HF := Hid.mk hF
  have HS := Hid.mk hS
  have HC := Hid.mk hc
  clear hL0 hB0 hF hc hS hL1 hB1 hs1 k0 kb
  go_enter Tryd.func31, Tryd.ntmps31
  go_wp2_with fail
  go_loopw [15] (fun i wr => ∃ (k : Nat), k ≤ n ∧ i = .int .i64 k ∧ Hid (chkK (l.map (·.f)) k = 0) ∧ Hid (LnAt wr w.heap.size (List.replicate 32 zE) 0) ∧ Hid (LnAt wr (w.heap.size + 1) (padA l k) 0) ∧ Hid (Below w.heap.size w wr)) (fun i _ => n - (intOf i).toNat)
  case atStart => exact ⟨0, Nat.zero_le _, rfl, Hid.mk rfl, K0, K1, KB⟩
  case round =>
    obtain ⟨k, hk, rfl, HZ, HL0, HL1, HB⟩ := hrel
    by_cases hlt : k < n
    · have hlt' : (k : Int) < (n : Int) := by omega
      have hkl : k < l.length := by rw [HF.out.len]; exact hlt
      cases a with
      | none => exact absurd (HF.out.none rfl) (by omega)
      | some x =>
        have cc := fun (j : Nat) (hj : j < 6) => cell_kept HB.out (HF.out.cell x rfl k hkl j hj)
        have hby := isBytes_below (HF.out.bytes k hkl) (show Below w.heap.size w wr from HB.out)
        have hstep := chkK_next HZ.out
        have hst : stepQ (l.map (·.f)) k = if frE l[k].f ≠ 0 then frE l[k].f else if 0 < k ∧ Op.bytesLess (nameL l[k].f) (nameL ((l.map (·.f)).getD (k - 1) ⟨0, false, false, false, 0, []⟩)) = true then 4 else 0 := by
          unfold stepQ; rw [map_f l k hkl]
        have hset := padA_set l k hkl (by omega)
        have hkA : k < (padA l k).length := by rw [padA_len l k (by omega) (by omega)]; omega
        have hbad : chkK (l.map (·.f)) (k + 1) ≠ 0 → chkQ (l.map (·.f)) = chkK (l.map (·.f)) (k + 1) ∧ lineL l = lnC (List.replicate 32 zE) 0 := by
          intro h
          have e1 : chkQ (l.map (·.f)) = chkK (l.map (·.f)) (k + 1) := by rw [HC.out]; exact chkK_stop h n (by omega)
          exact ⟨e1, by unfold lineL; rw [if_neg (by rw [e1]; exact h)]⟩
        rw [hstep] at hbad
        have HBAD := Hid.mk hbad
        have HST := Hid.mk hst
        have HSTEP := Hid.mk hstep
        have HSET := Hid.mk hset
        have hprev : 0 < k → wr.cell? ⟨w.heap.size + 1, (k - 1) * 7, none⟩ = some (.string ⟨(nameL ((l.map (·.f)).getD (k - 1) ⟨0, false, false, false, 0, []⟩)).toArray⟩) := by
          intro h0
          refine (show wr.cell? ⟨w.heap.size + 1, (k - 1) * 7 + 0, none⟩ = _ from ?_)
          rw [HL1.out.cell (k - 1) 0 (by omega) (by omega), padA_name l k (k - 1) (by omega) (by omega) (by omega), map_f l (k - 1) (by omega)]
          rfl
        have HPREV := Hid.mk hprev
        clear hbad hst hstep hset hprev
        generalize hfk : l[k] = v at *
        obtain ⟨⟨id, lo, fa, re, sz, dt⟩, va, vl, vc⟩ := v
        have c0 := cc 0 (by omega)
        have c1 := cc 1 (by omega)
        have c2 := cc 2 (by omega)
        have c3 := cc 3 (by omega)
        have c4 := cc 4 (by omega)
        have c5 := cc 5 (by omega)
        rw [add_nextQ] at c1 c2 c3 c4 c5
        rw [Nat.add_zero] at c0
        simp only [FrV.cells, List.getElem_cons_zero, List.getElem_cons_succ, Nat.reduceAdd] at c0 c1 c2 c3 c4 c5
        simp only at hby
        have hbx := below_box wr id lo fa re sz va vl vc
        have hB2 := bl2 HB.out hbx
        have hnm := frName_any ⟨id, lo, fa, re, sz, dt⟩ va vl vc _ (HS.out.kept hB2) (Nat.le_trans hby.2.1 hby.2.2.1) hby.1
        have HK := Hid.mk (FrAt.box wr id lo fa re sz va vl vc)
        have HBX := Hid.mk hbx
        have HB2 := Hid.mk hB2
        unfold nameA at hnm
        simp only at hnm
        unfold frameV at hnm
        have HNM := Hid.mk hnm
        unfold frameC at HNM HK HBX HB2
        clear cc hby hbx hB2 hnm
        by_cases hE : frE ⟨id, lo, fa, re, sz, dt⟩ = 0
        · rw [if_pos hE] at HNM
          rw [if_neg (show ¬ frE ⟨id, lo, fa, re, sz, dt⟩ ≠ 0 from fun h => h hE)] at HST
          obtain ⟨nm, hnmv⟩ : ∃ nm, nm = nameL ⟨id, lo, fa, re, sz, dt⟩ := ⟨_, rfl⟩
          rw [← hnmv] at HNM HST
          have HNV := Hid.mk hnmv
          clear hnmv
          go_wp2_with fail
          refine HNM.out.mono ?_
          rintro e w1 ⟨rfl, hb1⟩
          have hb01 := bl2 HBX.out hb1
          obtain ⟨k0, k1, k2, k3, k4, k5⟩ := HK.out.kept hb1
          have HB3 := Hid.mk (bl2 HB2.out hb1)
          have HL0b := Hid.mk (HL0.out.kept hb01)
          have HL1b := Hid.mk (HL1.out.kept hb01)
          have HPR := Hid.mk (fun h0 => cell_kept hb01 (HPREV.out h0))
          clear hb1 hb01 c0 c1 c2 c3 c4 c5
          by_cases h0 : 0 < k
          · have n2 := HPR.out h0
            have hk1 : ((k : Int) - 1) = ((k - 1 : Nat) : Int) := by omega
            have hd0 : decide ((0 : Int) < (k : Int)) = true := by simp; omega
            generalize nameL ((l.map (·.f)).getD (k - 1) ⟨0, false, false, false, 0, []⟩) = pn at *
            by_cases hl : Op.bytesLess nm pn = true
            · rw [if_pos ⟨h0, hl⟩] at HST
              have hh := HBAD.out (by rw [HST.out]; decide)
              have HH1 := Hid.mk (hh.1.trans HST.out)
              have HH2 := Hid.mk hh.2
              clear hh
              go_wp2_with (first | ((with_reducible_and_instances refine wpl_store_zero (.tmp 2) (.tmp 41) w.heap.size (List.replicate 32 zE) 0 ?_ ?_ HL0b.out ?_); rfl; rfl; intro w5 hL5 hT5))
              refine bodyPost_ret (line_results rfl _ _ w.heap.size _ _ _ rfl rfl hL5) rfl ?_
              exact ⟨by rw [HH1.out, HH2.out]; rfl, Tch.below HB3.out hT5 (by simp) (Nat.le_refl _)⟩
            · rw [if_neg (fun h => hl h.2)] at HST
              go_wp2_with (first | ((with_reducible_and_instances refine wpl_store_ent (.tmp 47) (.tmp 45) (w.heap.size + 1) (k * 7) k (padA l k) 0 ⟨nm, ⟨⟨id, lo, fa, re, sz, dt⟩, va, vl, vc⟩⟩ ?_ ?_ HL1b.out rfl hkA ?_); rfl; rfl; intro w5 hL5 hT5))
              have hE5 : (⟨nm, ⟨⟨id, lo, fa, re, sz, dt⟩, va, vl, vc⟩⟩ : Ent) = entOf ⟨⟨id, lo, fa, re, sz, dt⟩, va, vl, vc⟩ := by rw [HNV.out]; rfl
              rw [hE5, HSET.out] at hL5
              go_roundw
              case rel => exact ⟨k + 1, by omega, by go_num, Hid.mk (HSTEP.out.trans HST.out), Hid.mk (HL0b.out.tch hT5 (by simp)), Hid.mk hL5, Hid.mk (Tch.below HB3.out hT5 (by simp) (Nat.le_refl _))⟩
              case measure => simp [intOf]; omega
          · obtain rfl : k = 0 := by omega
            rw [if_neg (fun h => absurd h.1 (Nat.lt_irrefl _))] at HST
            go_wp2_with (first | ((with_reducible_and_instances refine wpl_store_ent (.tmp 47) (.tmp 45) (w.heap.size + 1) (0 * 7) 0 (padA l 0) 0 ⟨nm, ⟨⟨id, lo, fa, re, sz, dt⟩, va, vl, vc⟩⟩ ?_ ?_ HL1b.out rfl hkA ?_); rfl; rfl; intro w5 hL5 hT5))
            have hE5 : (⟨nm, ⟨⟨id, lo, fa, re, sz, dt⟩, va, vl, vc⟩⟩ : Ent) = entOf ⟨⟨id, lo, fa, re, sz, dt⟩, va, vl, vc⟩ := by rw [HNV.out]; rfl
            rw [hE5, HSET.out] at hL5
            go_roundw
            case rel => exact ⟨0 + 1, by omega, by go_num, Hid.mk (HSTEP.out.trans HST.out), Hid.mk (HL0b.out.tch hT5 (by simp)), Hid.mk hL5, Hid.mk (Tch.below HB3.out hT5 (by simp) (Nat.le_refl _))⟩
            case measure => simp [intOf]; omega
        · rw [if_neg hE] at HNM
          rw [if_pos hE] at HST
          have hne : (frE ⟨id, lo, fa, re, sz, dt⟩ != 0) = true := by simpa using hE
          have hh := HBAD.out (by rw [HST.out]; exact hE)
          have HH1 := Hid.mk (hh.1.trans HST.out)
          have HH2 := Hid.mk hh.2
          clear hh
          generalize frE ⟨id, lo, fa, re, sz, dt⟩ = ce at *
          go_wp2_with fail
          refine HNM.out.mono ?_
          rintro e w1 ⟨rfl, hb1⟩
          have hb01 := bl2 HBX.out hb1
          have HB3 := Hid.mk (bl2 HB2.out hb1)
          have HL0b := Hid.mk (HL0.out.kept hb01)
          clear hb1 hb01 c0 c1 c2 c3 c4 c5
          go_wp2_with (first | ((with_reducible_and_instances refine wpl_store_zero (.tmp 2) (.tmp 27) w.heap.size (List.replicate 32 zE) 0 ?_ ?_ HL0b.out ?_); rfl; rfl; intro w5 hL5 hT5))
          refine bodyPost_ret (line_results rfl _ _ w.heap.size _ _ _ rfl rfl hL5) rfl ?_
          exact ⟨by rw [HH1.out, HH2.out]; rfl, Tch.below HB3.out hT5 (by simp) (Nat.le_refl _)⟩
    · obtain rfl : k = n := by omega
      have c224 := HL1.out.size
      have z224 := HL1.out.frozen 224
      have HL2 := Hid.mk (HL1.out.setSize (k : Int))
      have HT2 := Hid.mk ((Tch.refl [w.heap.size + 1] wr).setK (g := w.heap.size + 1) (by simp) 224 (.int .i64 (k : Int)))
      have hfin : lineL l = lnC (padA l k) k := by
        unfold lineL
        rw [if_pos (by rw [HC.out]; exact HZ.out), HF.out.len]
      have HFIN := Hid.mk hfin
      have HQ := Hid.mk (HC.out.trans HZ.out)
      clear hfin
      go_wp2_with (first | ((with_reducible_and_instances refine wpl_load_line (.tmp 4) (w.heap.size + 1) _ _ ?_ HL2.out ?_); rfl) | ((with_reducible_and_instances refine wpl_store_line (.tmp 2) (.tmp 52) w.heap.size (List.replicate 32 zE) (padA l k) 0 (k : Int) ?_ ?_ (HL0.out.tch HT2.out (by simp)) HL2.out.len ?_); rfl; rfl; intro w7 hL7 hT7))
      refine bodyPost_ret (line_results rfl _ _ w.heap.size _ _ _ rfl rfl hL7) rfl ?_
      exact ⟨by rw [HQ.out, HFIN.out]; rfl, Tch.below (Tch.below HB.out HT2.out (by simp) (Nat.le_refl _)) hT7 (by simp) (Nat.le_refl _)⟩
theorem lineOf_any (a : Option Addr) (n cap : Nat) (l : List FrV) (w : World) (hS : SizesAt w) (hF : IsFrames w a n cap l) :
    Calls Tryd.prog 31 #[.slice a n cap] w fun e w' => e = .returned (.tuple #[.agg (lineL l).toArray, .int .i64 (chkQ (l.map (·.f)))]) ∧ Below w.heap.size w w' := by
  by_cases hm : n ≤ 16
  · exact lineOf_few a n cap l w hS hF hm
  · exact lineOf_many a n cap l w hF (by omega)
end Bw
end Go.Proofs.YthdffdobkampaaaDoor
