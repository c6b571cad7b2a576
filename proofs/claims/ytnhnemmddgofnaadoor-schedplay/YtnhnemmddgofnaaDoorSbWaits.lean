/- What sched.Waits answers of slots that Play told. -/
import Derived.Test.YtnhnemmddgofnaaDoorSbLed
import Derived.Deep.OwnRows
import Derived.Laws.MakeOwn
import Derived.RegionTactic
import Derived.BigRegion
namespace Go.Proofs.YtnhnemmddgofnaaDoor
open Go.ChangeShapes Go.WideShapes Go.ChangeAt Go.RowKit
namespace Bw
open Sb (Ms Sl asks)
set_option linter.unusedVariables false
def wtS (C : Nat → Nat) (i m : Nat) (x : Sl) : Nat := if x.k = i then max m (x.s + C x.k - x.d) else m
def wtL (C : Nat → Nat) (L : List Sl) (i : Nat) : Nat := L.foldl (wtS C i) 0
theorem wtL_snoc (C : Nat → Nat) (L : List Sl) (x : Sl) (i : Nat) : wtL C (L ++ [x]) i = wtS C i (wtL C L i) x := by unfold wtL; simp
def wtC (C : Nat → Nat) (L : List Sl) (n : Nat) : List Value := (List.range n).map fun i => .int .i64 ((wtL C L i : Nat) : Int)
theorem wtC_len (C : Nat → Nat) (L : List Sl) (n : Nat) : (wtC C L n).length = n := by simp [wtC]
theorem wtC_at {C : Nat → Nat} {L : List Sl} {n i : Nat} (h : i < n) : (wtC C L n)[i]? = some (.int .i64 ((wtL C L i : Nat) : Int)) := by simp [wtC, h]
theorem wtC_zero (C : Nat → Nat) (n : Nat) : wtC C [] n = List.replicate n (.int .i64 0) := by
  apply List.ext_getElem?
  intro i
  by_cases h : i < n
  · rw [wtC_at h]; simp [h, wtL]
  · rw [List.getElem?_eq_none (by rw [wtC_len]; omega), List.getElem?_eq_none (by simp; omega)]
theorem wtC_set {C : Nat → Nat} {L : List Sl} {n : Nat} {x : Sl} (h : x.k < n) : (wtC C L n).set x.k (.int .i64 ((max (wtL C L x.k) (x.s + C x.k - x.d) : Nat) : Int)) = wtC C (L ++ [x]) n := by
  apply List.ext_getElem?
  intro i
  by_cases hi : i < n
  · rw [wtC_at hi, wtL_snoc]
    by_cases e : x.k = i
    · subst e
      rw [List.getElem?_set_self (by rw [wtC_len]; exact hi)]
      unfold wtS
      rw [if_pos rfl]
    · rw [List.getElem?_set_ne e, wtC_at hi]
      unfold wtS
      rw [if_neg e]
  · rw [List.getElem?_eq_none (by rw [List.length_set, wtC_len]; omega), List.getElem?_eq_none (by rw [wtC_len]; omega)]
theorem wtC_same {C : Nat → Nat} {L : List Sl} {n : Nat} {x : Sl} (h : x.s + C x.k ≤ x.d) : wtC C (L ++ [x]) n = wtC C L n := by
  unfold wtC
  congr 1
  funext i
  rw [wtL_snoc]
  unfold wtS
  rw [show x.s + C x.k - x.d = 0 by omega, Nat.max_zero, ite_self]
theorem wtL_le {C : Nat → Nat} {M : Nat} : ∀ {L : List Sl} {i s : Nat}, s ≤ M → (∀ x ∈ L, x.s + C x.k ≤ M) → L.foldl (wtS C i) s ≤ M
  | [], _, _, h, _ => h
  | x :: L, i, s, h, hL => by
    rw [List.foldl_cons]
    refine wtL_le ?_ (fun y hy => hL y (List.mem_cons_of_mem _ hy))
    have := hL x List.mem_cons_self
    unfold wtS
    split <;> omega
theorem wtL_ge {C : Nat → Nat} : ∀ {L : List Sl} {i s : Nat}, s ≤ L.foldl (wtS C i) s
  | [], _, _ => Nat.le_refl _
  | x :: L, i, s => by
    rw [List.foldl_cons]
    refine Nat.le_trans ?_ wtL_ge
    unfold wtS
    split <;> omega
/-- the most that one waits is what some message waits, or nothing -/
theorem wtL_is {C : Nat → Nat} {B : Int} : ∀ {L : List Sl} {i s : Nat}, (s : Int) ≤ B → (∀ x ∈ L, x.k = i → ((x.s + C x.k : Nat) : Int) - (x.d : Int) ≤ B) → 0 ≤ B → ((L.foldl (wtS C i) s : Nat) : Int) ≤ B
  | [], _, _, h, _, _ => h
  | x :: L, i, s, h, hL, h0 => by
    rw [List.foldl_cons]
    refine wtL_is ?_ (fun y hy => hL y (List.mem_cons_of_mem _ hy)) h0
    unfold wtS
    split
    · have := hL x List.mem_cons_self (by assumption)
      omega
    · exact h
theorem info_int : (Tryd.prog.info? 3).map (fun i => (i.zero, i.size, i.bytes)) = some (some (.int .i64 0), 1, 8) := by kernel_rfl
theorem getD_memS {L : List Sl} {k : Nat} (h : k < L.length) : L.getD k noS ∈ L := by simp [List.getD, h]
theorem take_snocS {L : List Sl} {k : Nat} (h : k < L.length) : L.take (k + 1) = L.take k ++ [L.getD k noS] := by
  rw [List.take_succ_eq_append_getElem h]; simp [List.getD, h]
set_option maxHeartbeats 8000000 in
set_option maxRecDepth 100000 in
theorem waits_any (aT : Option Addr) (n dT : Nat) (l : List Tk) (b : Option Addr) (m d : Nat) (C : Nat → Nat) (L : List Sl) (w : World) (hT : IsTks w aT n dT l) (h0 : chkT l = 0) (hI : IsSls w b m C L) (hm : m ≤ 1000) (hk : ∀ x ∈ L, x.k < n) (hs : ∀ x ∈ L, x.d ≤ 2000000 ∧ x.s + C x.k ≤ 2200000) :
    Calls Tryd.prog 13 #[.slice aT n dT, .slice b m d] w fun e w' => ∃ v, e = .returned (.tuple #[v, .int .i64 0]) ∧ w'.ownsRow w.heap.size 3 1 v n (wtC C L n) ∧ Below w.heap.size w w' := by
  have HC := Hid.mk (dcheck_any aT n dT l w hT)
  rw [h0] at HC
  have hn20 : n ≤ 20 := by have := (chkT_ok h0).1; have := hT.len; omega
  have HI := Hid.mk hI
  have HK := Hid.mk hk
  have HS := Hid.mk hs
  have HLN := Hid.mk hI.len
  have hmk : ∀ W : World, (Instr.makeSlice 23 (.int .i64 (n : Int)) (.int .i64 (n : Int))).run Tryd.prog W = .ok (.slice (some ⟨W.heap.size, 0, none⟩) n n) (W.alloc (.cells (madeCells #[.int .i64 0] n) 3)) := by
    intro W
    exact run_make_row' 23 3 (.int .i64 0) 8 Tryd.underlying23 info_int rfl .i64 .i64 n (by omega) (by omega) W
  clear hT h0 hI hk hs
  go_enter Tryd.func13, Tryd.ntmps13
  go_wp2_with fail
  refine HC.out.mono ?_
  rintro e w1 ⟨rfl, hb1⟩
  have HB1 := Hid.mk hb1
  have hbm := awD w1 (.cells (madeCells #[.int .i64 0] n) 3)
  have HO := Hid.mk (show (w1.alloc (.cells (madeCells #[.int .i64 0] n) 3)).ownsRow w1.heap.size 3 1 (.slice (some ⟨w1.heap.size, 0, none⟩) n n) n (wtC C (L.take 0) n) by
    rw [List.take_zero, wtC_zero, ← toList_madeCells_one]
    exact World.ownsRow_lit w1 _ n (Nat.le_refl _) (by unfold maxLen; omega) (by rw [size_madeCells, Nat.mul_one]))
  have HB2 := Hid.mk hbm
  clear hb1 hbm HC
  go_wp2_with fail
  go_loopw [20] (fun i wr => ∃ k : Nat, k ≤ m ∧ i = .int .i64 k ∧ Hid (wr.ownsRow w1.heap.size 3 1 (.slice (some ⟨w1.heap.size, 0, none⟩) n n) n (wtC C (L.take k) n)) ∧ Hid (Below w1.heap.size w1 wr)) (fun i _ => m - (intOf i).toNat)
  case atStart => exact ⟨0, Nat.zero_le _, rfl, HO, HB2⟩
  case round =>
    clear hmk HO HB2
    obtain ⟨k, hk, rfl, HO, HB⟩ := hrel
    rename World => wo
    by_cases hlt : k < m
    · have hlt' : (k : Int) < (m : Int) := by omega
      obtain ⟨x, rfl⟩ := HI.out.some hlt
      obtain ⟨a0, a1, a2, a3⟩ := ((HI.out.kept HB1.out).kept HB.out).cell x rfl k hlt
      have hmem := getD_memS (L := L) (k := k) (by rw [HLN.out]; exact hlt)
      have hkk := HK.out _ hmem
      have hbb := HS.out _ hmem
      have HTK := Hid.mk (take_snocS (L := L) (k := k) (by rw [HLN.out]; exact hlt))
      have HSET := Hid.mk (wtC_set (C := C) (L := L.take k) hkk)
      have HSAM := Hid.mk (fun h => wtC_same (C := C) (L := L.take k) (n := n) (x := L.getD k noS) h)
      have hwl : wtL C (L.take k) (L.getD k noS).k ≤ 2200000 := wtL_le (Nat.zero_le _) (fun y hy => (HS.out y (List.mem_of_mem_take hy)).2)
      have hrd := HO.out.cells (g := w1.heap.size) rfl _ _ (wtC_at hkk)
      rw [addG] at hrd
      generalize L.getD k noS = P at *
      obtain ⟨K, D, A, S⟩ := P
      simp only at a0 a1 a2 a3 hkk hbb HSET HSAM hwl hrd
      generalize S + C K = E at *
      generalize wtL C (L.take k) K = M at *
      have hb3 := awD wo (.cells #[.int .i64 (K : Int), .int .i64 (D : Int), .int .i64 (S : Int), .int .i64 (E : Int)] 38)
      have hh := heap_alloc_new wo (.cells #[.int .i64 (K : Int), .int .i64 (D : Int), .int .i64 (S : Int), .int .i64 (E : Int)] 38)
      have v0 : (wo.alloc (.cells #[.int .i64 (K : Int), .int .i64 (D : Int), .int .i64 (S : Int), .int .i64 (E : Int)] 38)).cell? ⟨wo.heap.size, 0, none⟩ = some (.int .i64 (K : Int)) := cell_of_row _ _ 0 _ _ _ hh
      have v1 : (wo.alloc (.cells #[.int .i64 (K : Int), .int .i64 (D : Int), .int .i64 (S : Int), .int .i64 (E : Int)] 38)).cell? ⟨wo.heap.size, 1, none⟩ = some (.int .i64 (D : Int)) := cell_of_row _ _ 1 _ _ _ hh
      have v3 : (wo.alloc (.cells #[.int .i64 (K : Int), .int .i64 (D : Int), .int .i64 (S : Int), .int .i64 (E : Int)] 38)).cell? ⟨wo.heap.size, 3, none⟩ = some (.int .i64 (E : Int)) := cell_of_row _ _ 3 _ _ _ hh
      have hrd3 := cell_kept hb3 hrd
      have HO3 := Hid.mk (ownsRow_below HO.out hb3)
      have HB3 := Hid.mk (bl2 HB.out hb3)
      have hfz := HO3.out.frozenAt K
      have hK1 : (K : Int) < (n : Int) := by omega
      have hK2 : ¬ ((n : Int) ≤ (K : Int)) := by omega
      have hE1 : (E : Int) ≤ 2200000 := by omega
      have hD1 : (D : Int) ≤ 2000000 := by omega
      have hM1 : (M : Int) ≤ 2200000 := by omega
      clear hh hmem hb3
      by_cases hed : D < E
      · have hed' : (D : Int) < (E : Int) := by omega
        have HMX : Hid (max (M : Int) ((E : Int) - (D : Int)) = ((max M (E - D) : Nat) : Int)) := Hid.mk (by omega)
        clear hed HSAM hbb hwl hkk
        go_wp2_with fail
        generalize wo.alloc (.cells #[.int .i64 (K : Int), .int .i64 (D : Int), .int .i64 (S : Int), .int .i64 (E : Int)] 38) = w3 at *
        have HST := Hid.mk (HO3.out.stored K (.int .i64 ((max M (E - D) : Nat) : Int))).1
        have HBS := Hid.mk (HB3.out.setCell (p := ⟨w1.heap.size, K, none⟩) (Nat.le_refl _) (.int .i64 ((max M (E - D) : Nat) : Int)))
        rw [HSET.out] at HST
        go_region
        go_wp2_with fail
        rw [HMX.out]
        go_roundw
        case rel => exact ⟨k + 1, by omega, by go_num, Hid.mk (by rw [HTK.out]; exact ownsRow_below HST.out (below_drD (Below.refl _ _) 1)), Hid.mk (below_drD HBS.out 1)⟩
        case measure => simp [intOf]; omega
      · have hed' : ¬ ((D : Int) < (E : Int)) := by omega
        have HS2 := Hid.mk (HSAM.out (by omega))
        clear HSET hbb hwl hkk
        go_wp2_with fail
        go_roundw
        case rel => exact ⟨k + 1, by omega, by go_num, Hid.mk (by rw [HTK.out, HS2.out]; exact HO3.out), HB3⟩
        case measure => simp [intOf]; omega
    · obtain rfl : k = m := by omega
      go_wp2_with fail
      go_ret2
      refine ⟨_, rfl, ?_, bl2 HB1.out HB.out⟩
      have := HO.out
      rw [List.take_of_length_le (by rw [HLN.out]; exact Nat.le_refl _)] at this
      exact own_lower this HB1.out.size
end Bw
end Go.Proofs.YtnhnemmddgofnaaDoor
