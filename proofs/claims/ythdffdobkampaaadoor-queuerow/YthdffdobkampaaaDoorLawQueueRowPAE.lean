/- Joined out of our texts: QSort2, QSort3, Queued, FrSame, QrowKit, QrowLaw, SizesRow, BruijnRow, QrowWalk. -/
import Derived.Test.YthdffdobkampaaaDoorLawQueueRowPAC
import Derived.Test.YthdffdobkampaaaDoorLawQueueRowPAD
import Derived.Deep.RegionHeld3
import Derived.Test.YthdffdobkampaaaDoorLawQueueRowPAA
import Derived.Test.YthdffdobkampaaaDoorRows
import Derived.Lib.LaidU8
import Derived.Test.YthdffdobkampaaaDoorLawQueueRowRAH
/- What slices.insertionSortCmpFunc answers of right frames: each one put behind those whose name doesn't come behind its. -/
namespace Go.Proofs.YthdffdobkampaaaDoor
open Go.ChangeShapes Go.WideShapes Go.ChangeAt Go.RowKit
namespace Bw
open Bm Cm Go.Sort
/-- a frame is stored into a row of one's own, at the operation itself -/
theorem wp_store_rowQ {o : Oper} {a : Act} {w : World} {K : Act → World → Prop} {Q : Exit → Act → World → Prop} (x y : Operand) (ho : o.op = .store 25 x y) (base g off n c k : Nat) (l : List FrV) (v : FrV) (hx : a.eval x = .pointer (some ⟨g, off, none⟩)) (hy : a.eval y = .agg v.cells.toArray) (hO : w.ownsRow base 25 6 (.slice (some ⟨g, 0, none⟩) n c) n (frC l)) (hl : l.length = n) (hoff : off = k * 6) (hk : k < n)
    (h : ∀ w', w'.ownsRow base 25 6 (.slice (some ⟨g, 0, none⟩) n c) n (frC (l.set k v)) → Tch [g] w w' → K (a.put o.dst undef) w') : o.wp Tryd.prog a w K Q := by
  subst hoff
  rcases hO.2 with ⟨h1, h2⟩ | ⟨g', cap, cur, h1, hbg, hg, hc, hm, hsz, htk⟩
  · cases h1
  · injection h1 with e1 e2 e3
    injection e1 with e1
    injection e1 with e1
    subst e1
    subst e3
    have hset := set_row (o := k * 6) hg (by rw [hsz]; show k * 6 + 6 ≤ _; omega) (frv_oneI v)
    refine wp_store_mid 25 x y ho g (k * 6) v.cells.toArray hx hy (fun j hj => ⟨?_, frozen_of_row w g _ _ _ hg⟩) fr_info (all_oneCell_toArray (frv_oneI v)) ?_
    · have hj' : j < 6 := hj
      rw [cell_of_row w g _ _ _ _ hg, Array.getElem?_eq_getElem (by rw [hsz]; omega)]; rfl
    · show K _ (w.setCells g (k * 6) v.cells)
      rw [hset]
      refine h _ ⟨by rw [frC_length, List.length_set, hl], .inr ⟨g, c, _, rfl, hbg, setRow_heap w g _ _ _ _ hg, hc, hm, ?_, ?_⟩⟩ (tch_row _)
      · rw [List.size_toArray]
        simp only [List.length_append, List.length_take, List.length_drop, Array.length_toList, hsz]
        show _ + 6 + (_ - (_ + 6)) = _
        omega
      · have h6 : v.cells.length = 6 := rfl
        have e1 : cur.toList.take (k * 6) = frC (l.take k) := by
          have : cur.toList.take (k * 6) = (frC l).take (k * 6) := by rw [← htk, List.take_take, Nat.min_eq_left (by omega)]
          rw [this, frC_td l k]
          exact List.take_left' (by rw [frC_length, List.length_take]; omega)
        have e2 : (cur.toList.drop (k * 6 + 6)).take ((n - (k + 1)) * 6) = frC (l.drop (k + 1)) := by
          have h7 : (cur.toList.take (n * 6)).drop (k * 6 + 6) = (frC l).drop (k * 6 + 6) := by rw [htk]
          rw [List.drop_take, show n * 6 - (k * 6 + 6) = (n - (k + 1)) * 6 by omega] at h7
          rw [h7, frC_td l (k + 1)]
          exact List.drop_left' (by rw [frC_length, List.length_take]; omega)
        rw [List.toList_toArray, h6, frC_set l k v (by omega), List.append_assoc, List.take_append, e1]
        have htl : (frC (l.take k)).length = k * 6 := by rw [frC_length, List.length_take]; omega
        rw [List.take_of_length_le (l := frC (l.take k)) (by rw [htl]; omega), htl, List.take_append, h6, List.take_of_length_le (l := v.cells) (by rw [h6]; omega), show n * 6 - k * 6 - 6 = (n - (k + 1)) * 6 by omega, e2]
theorem rowV_range {w : World} {base g n c : Nat} {l : List FrV} (h : w.ownsRow base 25 6 (.slice (some ⟨g, 0, none⟩) n c) n (frC l)) (i : Nat) (hi : i < l.length) : w.rangeAt g (i * 6) (l[i].cells) := by
  intro j u hj
  obtain ⟨hj6, hju⟩ := List.getElem?_eq_some_iff.1 hj
  have := h.cells (g := g) rfl (i * 6 + j) _ (frC_at l i j hi hj6)
  rw [Addr.add_mid, Nat.zero_add] at this
  rw [this]
  exact congrArg some hju
/-- v moved to place j of what stands ahead of it -/
def midV (P : List FrV) (j : Nat) (v : FrV) (R : List FrV) : List FrV := insAt P j v ++ R
theorem mid_len (P : List FrV) (j : Nat) (v : FrV) (R : List FrV) : (midV P j v R).length = P.length + 1 + R.length := by unfold midV; rw [List.length_append, insAt_len]
theorem mid_at (P : List FrV) (j : Nat) (v : FrV) (R : List FrV) (hj : j ≤ P.length) : (midV P j v R)[j]? = some v := by
  unfold midV insAt
  rw [List.append_assoc, List.getElem?_append_right (by rw [List.length_take]; omega), List.length_take, Nat.min_eq_left hj, Nat.sub_self]; rfl
theorem mid_pre (P : List FrV) (j : Nat) (v : FrV) (R : List FrV) (_hj : j ≤ P.length) (h0 : 0 < j) : (midV P j v R)[j - 1]? = P[j - 1]? := by
  unfold midV insAt
  rw [List.append_assoc, List.getElem?_append_left (by rw [List.length_take]; omega), List.getElem?_take_of_lt (by omega)]
theorem mid_swap (P : List FrV) (j : Nat) (v p : FrV) (R : List FrV) (_hj : j ≤ P.length) (h0 : 0 < j) (hp : P[j - 1]? = some p) : ((midV P j v R).set j p).set (j - 1) v = midV P (j - 1) v R := by
  obtain ⟨hp1, hp2⟩ := List.getElem?_eq_some_iff.1 hp
  have e1 : P.take j = P.take (j - 1) ++ [p] := by
    have := List.take_succ_eq_append_getElem hp1
    rw [show j - 1 + 1 = j by omega, hp2] at this
    exact this
  have e2 : P.drop (j - 1) = p :: P.drop j := by
    have := List.drop_eq_getElem_cons hp1
    rw [show j - 1 + 1 = j by omega, hp2] at this
    exact this
  have hl : (P.take (j - 1)).length = j - 1 := by rw [List.length_take]; omega
  unfold midV insAt
  rw [e1, e2]
  simp only [List.append_assoc, List.cons_append, List.nil_append]
  rw [List.set_append_right _ _ (by rw [hl]; omega), hl, show j - (j - 1) = 1 by omega]
  rw [List.set_append_right _ _ (by rw [hl]; omega), hl, Nat.sub_self]
  rfl
theorem mid_start (P : List FrV) (v : FrV) (R : List FrV) : midV P P.length v R = P ++ v :: R := by
  unfold midV insAt
  rw [List.take_length, List.drop_length, List.append_assoc]; rfl
theorem mid_stop (P : List FrV) (v : FrV) (R : List FrV) : midV P (atF (P.map (·.f)) v.f) v R = putV P v ++ R := rfl
set_option maxHeartbeats 4000000 in
set_option maxRecDepth 100000 in
theorem insSort_any (g n c base : Nat) (l : List FrV) (w : World) (hD : w.cell? ⟨4, 1, none⟩ = some (.int .u8 1)) (hDb : 4 < base) (hl : l.length = n) (hn : n ≤ 100) (hO : w.ownsRow base 25 6 (.slice (some ⟨g, 0, none⟩) n c) n (frC l)) (hbg : base ≤ g) (hE : ∀ u ∈ l, frE u.f = 0) :
    Calls Tryd.prog 50 #[.slice (some ⟨g, 0, none⟩) n c, .int .i64 0, .int .i64 n, .func (.func 23) #[] #[]] w fun e w' => e = .returned (.tuple #[]) ∧ w'.ownsRow base 25 6 (.slice (some ⟨g, 0, none⟩) n c) n (frC (mrgV [] l)) ∧ Tch [g] w w' := by
  have HD := Hid.mk hD
  have HO := Hid.mk hO
  have HE := Hid.mk hE
  have HL := Hid.mk hl
  have HDB := Hid.mk hDb
  have hcn : n ≤ c := by
    rcases hO.2 with ⟨h1, _⟩ | ⟨g', cap, cur, h1, _, _, hc, _⟩
    · cases h1
    · injection h1 with _ _ e3; omega
  clear hD hO hE hl hDb
  go_enter Tryd.func50, Tryd.ntmps50
  go_wp2_with fail
  go_loopw [8] (fun i wr => ∃ (m : Nat), 1 ≤ m ∧ (m ≤ n ∨ m = 1) ∧ i = .int .i64 m ∧ Hid (wr.ownsRow base 25 6 (.slice (some ⟨g, 0, none⟩) n c) n (frC (mrgV [] (l.take m) ++ l.drop m))) ∧ Hid (Tch [g] w wr)) (fun i _ => n + 1 - (intOf i).toNat)
  case atStart =>
    refine ⟨1, Nat.le_refl _, .inr rfl, rfl, Hid.mk ?_, Hid.mk (Tch.refl _ _)⟩
    have e : mrgV [] (l.take 1) ++ l.drop 1 = l := by
      cases l with
      | nil => rfl
      | cons u l => rfl
    rw [e]; exact HO.out
  case round =>
    obtain ⟨m, hm1, hm, rfl, HOm, HB⟩ := hrel
    by_cases hlt : m < n
    · have hlt' : (m : Int) < (n : Int) := by omega
      have hml : m < l.length := by rw [HL.out]; exact hlt
      have hPl : (mrgV [] (l.take m)).length = m := by rw [mrgV_len, List.length_take]; simp; omega
      have hdr : l.drop m = l[m] :: l.drop (m + 1) := List.drop_eq_getElem_cons hml
      have hnx := mrgV_next [] l m hml
      have hPE : ∀ u ∈ mrgV [] (l.take m), frE u.f = 0 := fun u hu => by
        rcases mrgV_mem _ _ _ hu with h | h
        · cases h
        · exact HE.out u (List.mem_of_mem_take h)
      have hvE := HE.out _ (List.getElem_mem hml)
      have hRl : (l.drop (m + 1)).length = n - (m + 1) := by rw [List.length_drop, HL.out]
      rw [hdr] at HOm
      obtain ⟨R, hR⟩ : ∃ R, R = l.drop (m + 1) := ⟨_, rfl⟩
      rw [← hR] at HOm hRl hdr
      have HREQ := Hid.mk hR
      clear hR
      generalize l[m] = v at *
      generalize mrgV [] (l.take m) = P at *
      have hst := mid_start P v R
      rw [hPl] at hst
      rw [← hst] at HOm
      have HPE := Hid.mk hPE
      have HVE := Hid.mk hvE
      have HNX := Hid.mk hnx
      have HRL := Hid.mk hRl
      clear hdr hnx hPE hvE hRl hst
      obtain ⟨nm, hnm⟩ : ∃ nm, nm = nameL v.f := ⟨_, rfl⟩
      obtain ⟨NS, hNS⟩ : ∃ NS, NS = (P.map (·.f)).map nameL := ⟨_, rfl⟩
      have hatF : atF (P.map (·.f)) v.f = atE nm NS m := by unfold atF; rw [List.length_map, hPl, hnm, hNS]
      have HATF := Hid.mk hatF
      have HNM := Hid.mk hnm
      have HNS := Hid.mk hNS
      clear hatF hnm hNS
      obtain ⟨wz, hwz⟩ : ∃ wz, wz = wr := ⟨_, rfl⟩
      subst hwz
      go_wp2_with fail
      go_loopw [9] (fun i wr => ∃ (k : Nat), k ≤ m ∧ i = .int .i64 k ∧ Hid (atE nm NS m = atE nm NS k) ∧ Hid (wr.ownsRow base 25 6 (.slice (some ⟨g, 0, none⟩) n c) n (frC (midV P k v R))) ∧ Hid (Tch [g] w wr)) (fun i _ => (intOf i).toNat)
      case atStart => exact ⟨m, Nat.le_refl _, rfl, Hid.mk rfl, HOm, HB⟩
      case round =>
        obtain ⟨k, hk, rfl, HAT, HOk, HBk⟩ := hrel
        have hLn : (midV P k v R).length = n := by rw [mid_len, hPl, HRL.out]; omega
        by_cases h0 : 0 < k
        · obtain ⟨p, hp⟩ : ∃ p, P[k - 1]? = some p := ⟨_, List.getElem?_eq_getElem (show k - 1 < P.length by omega)⟩
          have hpm : p ∈ P := List.mem_of_getElem? hp
          have hpn : NS.getD (k - 1) [] = nameL p.f := by
            rw [HNS.out, List.map_map, List.getD_eq_getElem?_getD, List.getElem?_map, hp]; rfl
          have hatk : atE nm NS k = if Op.bytesLess nm (nameL p.f) = true then atE nm NS (k - 1) else k := by
            obtain ⟨q, rfl⟩ : ∃ q, k = q + 1 := ⟨k - 1, by omega⟩
            show (if Op.bytesLess nm (NS.getD q []) = true then _ else _) = _
            rw [show NS.getD q [] = nameL p.f from hpn]; rfl
          have hkv : (midV P k v R)[k]'(by omega) = v := by
            have := mid_at P k v R (by omega)
            exact (List.getElem?_eq_some_iff.1 this).2
          have hkp : (midV P k v R)[k - 1]'(by omega) = p := by
            have := mid_pre P k v R (by omega) h0
            rw [hp] at this
            exact (List.getElem?_eq_some_iff.1 this).2
          have hrv := rowV_range HOk.out k (by omega)
          have hrp := rowV_range HOk.out (k - 1) (by omega)
          rw [hkv] at hrv
          rw [hkp] at hrp
          have HSW := Hid.mk (mid_swap P k v p R (by omega) h0 hp)
          have HLN := Hid.mk hLn
          have hcq := fun W (hW : Tch [g] w W) => cmpQ_any v p W (by have h9 := HD.out; unfold World.cell? at h9 ⊢; rw [hW.block _ (block_lt_of_cell HD.out) (by have := HDB.out; simp; omega)]; exact h9) HVE.out (HPE.out p hpm)
          obtain ⟨q, hq⟩ : ∃ q, q = Lib.compareBytes (nameL v.f) (nameL p.f) := ⟨_, rfl⟩
          have hql := cmpB_lt (nameL v.f) (nameL p.f)
          rw [← hq, ← HNM.out] at hql
          rw [← hq] at hcq
          simp only [FrV.cells] at hcq
          have HCQ := Hid.mk hcq
          have v0 := hrv 0 _ rfl
          have v1 := hrv 1 _ rfl
          have v2 := hrv 2 _ rfl
          have v3 := hrv 3 _ rfl
          have v4 := hrv 4 _ rfl
          have v5 := hrv 5 _ rfl
          have p0 := hrp 0 _ rfl
          have p1 := hrp 1 _ rfl
          have p2 := hrp 2 _ rfl
          have p3 := hrp 3 _ rfl
          have p4 := hrp 4 _ rfl
          have p5 := hrp 5 _ rfl
          simp only [Nat.add_zero] at v0 p0
          have rf0 := fun d os => cell_reg v0 d os
          have rf1 := fun d os => cell_reg v1 d os
          have rf2 := fun d os => cell_reg v2 d os
          have rf3 := fun d os => cell_reg v3 d os
          have rf4 := fun d os => cell_reg v4 d os
          have rf5 := fun d os => cell_reg v5 d os
          have rg0 := fun d os => cell_reg p0 d os
          have rg1 := fun d os => cell_reg p1 d os
          have rg2 := fun d os => cell_reg p2 d os
          have rg3 := fun d os => cell_reg p3 d os
          have rg4 := fun d os => cell_reg p4 d os
          have rg5 := fun d os => cell_reg p5 d os
          have HBR := Hid.mk (fun d os => HBk.out.trans (Tch.of (below_regrown wr d os)))
          have hk1 : ((k : Int) - 1) = ((k - 1 : Nat) : Int) := by omega
          have hk2 : (((k - 1 : Nat) : Int)) < (n : Int) := by omega
          have hk3 : (k : Int) < (n : Int) := by omega
          have hd0 : decide ((0 : Int) < (k : Int)) = true := by simp; omega
          have hwk : IntKind.i64.wrap ((k - 1 : Nat) : Int) = ((k - 1 : Nat) : Int) := by rw [IntKind.wrap_i64]; omega
          have HRV := Hid.mk hrv
          have HRP := Hid.mk hrp
          have HATK := Hid.mk hatk
          clear hpm hpn hatk hkv hkp hrv hrp hcq hq v0 v1 v2 v3 v4 v5 p0 p1 p2 p3 p4 p5 hp hLn
          by_cases hl : Op.bytesLess nm (nameL p.f) = true
          · have hqd : decide (q < 0) = true := by rw [hql]; exact hl
            have HAT2 := Hid.mk (HAT.out.trans (HATK.out.trans (if_pos hl)))
            clear hql hl
            go_wp2_with fail
            refine wp_region_quiet_below (by kernel_rfl) (by kernel_rfl) ?_
            repeat (go_big_quiet_step ((go_at_call 23; with_reducible_and_instances exact Calls.regrown_of (HCQ.out _ (HBR.out _ _)))))
            refine wpQuiet_nil ?_
            intro _ hw'
            obtain ⟨⟨dq, osq⟩, hw''⟩ := hw'
            have hbq := below_regrown wr dq osq
            rw [hw'']
            generalize grow (redrawn wr dq) osq = w4 at *
            clear hw'' rf0 rf1 rf2 rf3 rf4 rf5 rg0 rg1 rg2 rg3 rg4 rg5 HBR
            generalize hLe : midV P k v R = L at *
            have HOd := Hid.mk (show w4.drew.ownsRow base 25 6 (.slice (some ⟨g, 0, none⟩) n c) n (frC L) from ownsRow_below HOk.out (hbq.trans ⟨rfl, rfl, rfl, Nat.le_refl _, fun _ _ => rfl⟩))
            have HBd := Hid.mk (show Tch [g] w w4.drew from HBk.out.trans (Tch.of (hbq.trans ⟨rfl, rfl, rfl, Nat.le_refl _, fun _ _ => rfl⟩)))
            have HRVd := Hid.mk (show w4.drew.rangeAt g (k * 6) v.cells from fun j u hj => cell_kept hbq (HRV.out j u hj))
            have HRPd := Hid.mk (show w4.drew.rangeAt g ((k - 1) * 6) p.cells from fun j u hj => cell_kept hbq (HRP.out j u hj))
            clear hbq
            go_wp2_with fail
            refine wp_region_held_drew (S := fun _ => True) (by kernel_rfl) trivial (fun _ => ?_)
            refine wpAnyH_take (i := 0) (v := .slice (some ⟨g, 0, none⟩) n c) rfl (by kernel_rfl) (by kernel_rfl) (by kernel_rfl) (fun _ _ _ h => h) (Or.inl ⟨by rfl, fun _ _ => rfl⟩) trivial ?_
            simp only [List.getElem_toArray, List.getElem_cons_zero, Act.put, List.setIfInBounds_toArray, List.set_cons_zero, List.set_cons_succ]
            refine wpAnyH_take (i := 1) (v := .int .i64 k) rfl (by kernel_rfl) (by kernel_rfl) (by kernel_rfl) (fun _ _ _ h => h) (Or.inl ⟨by rfl, fun _ _ => rfl⟩) trivial ?_
            simp only [List.getElem_toArray, List.getElem_cons_zero, List.getElem_cons_succ, Act.put, List.setIfInBounds_toArray, List.set_cons_zero, List.set_cons_succ]
            refine wpAnyH_take (i := 2) (v := .slice (some ⟨g, 0, none⟩) n c) rfl (by kernel_rfl) (by kernel_rfl) (by kernel_rfl) (fun _ _ _ h => h) (Or.inl ⟨by rfl, fun _ _ => rfl⟩) trivial ?_
            simp only [List.getElem_toArray, List.getElem_cons_zero, List.getElem_cons_succ, Act.put, List.setIfInBounds_toArray, List.set_cons_zero, List.set_cons_succ]
            refine wpAnyH_take (i := 3) (v := .int .i64 k) rfl (by kernel_rfl) (by kernel_rfl) (by kernel_rfl) (fun _ _ _ h => h) (Or.inl ⟨by rfl, fun _ _ => rfl⟩) trivial ?_
            simp only [List.getElem_toArray, List.getElem_cons_zero, List.getElem_cons_succ, Act.put, List.setIfInBounds_toArray, List.set_cons_zero, List.set_cons_succ]
            refine wpAnyH_take (i := 4) (v := .int .i64 ((k - 1 : Nat) : Int)) rfl (by kernel_rfl) (by kernel_rfl) (by kernel_rfl) (fun _ _ _ h => h) (Or.inl ⟨by rfl, fun W hW => by clear hW; go_simp⟩) trivial ?_
            simp only [List.getElem_toArray, List.getElem_cons_zero, List.getElem_cons_succ, Act.put, List.setIfInBounds_toArray, List.set_cons_zero, List.set_cons_succ]
            refine wpAnyH_take (i := 5) (v := .slice (some ⟨g, 0, none⟩) n c) rfl (by kernel_rfl) (by kernel_rfl) (by kernel_rfl) (fun _ _ _ h => h) (Or.inl ⟨by rfl, fun _ _ => rfl⟩) trivial ?_
            simp only [List.getElem_toArray, List.getElem_cons_zero, List.getElem_cons_succ, Act.put, List.setIfInBounds_toArray, List.set_cons_zero, List.set_cons_succ]
            refine wpAnyH_take (i := 6) (v := .int .i64 k) rfl (by kernel_rfl) (by kernel_rfl) (by kernel_rfl) (fun _ _ _ h => h) (Or.inl ⟨by rfl, fun _ _ => rfl⟩) trivial ?_
            simp only [List.getElem_toArray, List.getElem_cons_zero, List.getElem_cons_succ, Act.put, List.setIfInBounds_toArray, List.set_cons_zero, List.set_cons_succ]
            refine wpAnyH_take (i := 7) (v := .int .i64 ((k - 1 : Nat) : Int)) rfl (by kernel_rfl) (by kernel_rfl) (by kernel_rfl) (fun _ _ _ h => h) (Or.inl ⟨by rfl, fun W hW => by clear hW; go_simp⟩) trivial ?_
            simp only [List.getElem_toArray, List.getElem_cons_zero, List.getElem_cons_succ, Act.put, List.setIfInBounds_toArray, List.set_cons_zero, List.set_cons_succ]
            refine wpAnyH_take (i := 8) (v := .pointer (some ⟨g, (k - 1) * 6, none⟩)) rfl (by kernel_rfl) (by kernel_rfl) (by kernel_rfl) (fun _ _ _ h => h) (Or.inl ⟨by rfl, fun W hW => by clear hW; go_simp⟩) trivial ?_
            simp only [List.getElem_toArray, List.getElem_cons_zero, List.getElem_cons_succ, Act.put, List.setIfInBounds_toArray, List.set_cons_zero, List.set_cons_succ]
            refine wpAnyH_take (i := 10) (v := .slice (some ⟨g, 0, none⟩) n c) rfl (by kernel_rfl) (by kernel_rfl) (by kernel_rfl) (fun _ _ _ h => h) (Or.inl ⟨by rfl, fun _ _ => rfl⟩) trivial ?_
            simp only [List.getElem_toArray, List.getElem_cons_zero, List.getElem_cons_succ, Act.put, List.setIfInBounds_toArray, List.set_cons_zero, List.set_cons_succ]
            refine wpAnyH_take (i := 11) (v := .int .i64 k) rfl (by kernel_rfl) (by kernel_rfl) (by kernel_rfl) (fun _ _ _ h => h) (Or.inl ⟨by rfl, fun _ _ => rfl⟩) trivial ?_
            simp only [List.getElem_toArray, List.getElem_cons_zero, List.getElem_cons_succ, Act.put, List.setIfInBounds_toArray, List.set_cons_zero, List.set_cons_succ]
            refine wpAnyH_take (i := 12) (v := .pointer (some ⟨g, k * 6, none⟩)) rfl (by kernel_rfl) (by kernel_rfl) (by kernel_rfl) (fun _ _ _ h => h) (Or.inl ⟨by rfl, fun W hW => by clear hW; go_simp⟩) trivial ?_
            simp only [List.getElem_toArray, List.getElem_cons_zero, List.getElem_cons_succ, Act.put, List.setIfInBounds_toArray, List.set_cons_zero, List.set_cons_succ]
            refine wpAnyH_ready (rs := [9, 13]) (by kernel_rfl) (by simp) ?_
            refine AllReadyH.cons rfl (fun K hK => ?_) (AllReadyH.cons rfl (fun K hK => ?_) AllReadyH.nil)
            · focus
              rw [if_pos (by rfl)]
              refine wp_load_mid 25 (.tmp 45) rfl g ((k - 1) * 6) rfl p.cells _ HRPd.out Tryd.underlying25 rfl fr_info ?_
              refine hK.out _ _ trivial (fun _ => ?_)
              clear hK K
              simp only [List.getElem_toArray, List.getElem_cons_zero, List.getElem_cons_succ, Act.put, List.setIfInBounds_toArray, List.set_cons_zero, List.set_cons_succ]
              refine wpAnyH_ready (rs := [13]) (by kernel_rfl) (by simp) ?_
              refine AllReadyH.cons rfl (fun K hK => ?_) AllReadyH.nil
              rw [if_pos (by rfl)]
              refine wp_load_mid 25 (.tmp 49) rfl g (k * 6) rfl v.cells _ HRVd.out Tryd.underlying25 rfl fr_info ?_
              refine hK.out _ _ trivial (fun _ => ?_)
              clear hK K
              simp only [List.getElem_toArray, List.getElem_cons_zero, List.getElem_cons_succ, Act.put, List.setIfInBounds_toArray, List.set_cons_zero, List.set_cons_succ]
              refine wpAnyH_take (i := 14) (v := .pointer (some ⟨g, k * 6, none⟩)) rfl (by kernel_rfl) (by kernel_rfl) (by kernel_rfl) (fun _ _ _ h => h) (Or.inl ⟨by rfl, fun W hW => by clear hW; go_simp⟩) trivial ?_
              simp only [List.getElem_toArray, List.getElem_cons_zero, List.getElem_cons_succ, Act.put, List.setIfInBounds_toArray, List.set_cons_zero, List.set_cons_succ]
              refine wpAnyH_ready (rs := [15]) (by kernel_rfl) (by simp) ?_
              refine AllReadyH.cons rfl (fun K hK => ?_) AllReadyH.nil
              rw [if_pos (by rfl)]
              refine wp_store_rowQ (.tmp 51) (.tmp 46) rfl base g (k * 6) n c k L p rfl rfl HOd.out HLN.out rfl (by omega) ?_
              intro w5 hO5 hT5
              refine hK.out _ _ trivial (fun _ => ?_)
              clear hK K
              simp only [List.getElem_toArray, List.getElem_cons_zero, List.getElem_cons_succ, Act.put]
              refine wpAnyH_take (i := 16) (v := .pointer (some ⟨g, (k - 1) * 6, none⟩)) rfl (by kernel_rfl) (by kernel_rfl) (by kernel_rfl) (fun _ _ _ h => h) (Or.inl ⟨by rfl, fun W hW => by clear hW; go_simp⟩) trivial ?_
              simp only [List.getElem_toArray, List.getElem_cons_zero, List.getElem_cons_succ, Act.put, List.setIfInBounds_toArray, List.set_cons_zero, List.set_cons_succ]
              refine wpAnyH_ready (rs := [17]) (by kernel_rfl) (by simp) ?_
              refine AllReadyH.cons rfl (fun K hK => ?_) AllReadyH.nil
              rw [if_pos (by rfl)]
              refine wp_store_rowQ (.tmp 52) (.tmp 50) rfl base g ((k - 1) * 6) n c (k - 1) (L.set k p) v rfl rfl hO5 (by rw [List.length_set]; exact HLN.out) rfl (by omega) ?_
              intro w6 hO6 hT6
              refine hK.out _ _ trivial (fun _ => ?_)
              clear hK K
              simp only [List.getElem_toArray, List.getElem_cons_zero, List.getElem_cons_succ, Act.put]
              refine wpAnyH_done (by kernel_rfl) ?_ _
              rw [HSW.out] at hO6
              have HB6 := Hid.mk ((HBd.out.trans hT5).trans hT6)
              go_wp2_with fail
              go_roundw
              case rel => exact ⟨k - 1, by omega, by go_num, HAT2, Hid.mk hO6, HB6⟩
              case measure => simp [intOf]; omega
            · focus
              rw [if_pos (by rfl)]
              refine wp_load_mid 25 (.tmp 49) rfl g (k * 6) rfl v.cells _ HRVd.out Tryd.underlying25 rfl fr_info ?_
              refine hK.out _ _ trivial (fun _ => ?_)
              clear hK K
              simp only [List.getElem_toArray, List.getElem_cons_zero, List.getElem_cons_succ, Act.put, List.setIfInBounds_toArray, List.set_cons_zero, List.set_cons_succ]
              refine wpAnyH_ready (rs := [9]) (by kernel_rfl) (by simp) ?_
              refine AllReadyH.cons rfl (fun K hK => ?_) AllReadyH.nil
              rw [if_pos (by rfl)]
              refine wp_load_mid 25 (.tmp 45) rfl g ((k - 1) * 6) rfl p.cells _ HRPd.out Tryd.underlying25 rfl fr_info ?_
              refine hK.out _ _ trivial (fun _ => ?_)
              clear hK K
              simp only [List.getElem_toArray, List.getElem_cons_zero, List.getElem_cons_succ, Act.put, List.setIfInBounds_toArray, List.set_cons_zero, List.set_cons_succ]
              refine wpAnyH_take (i := 14) (v := .pointer (some ⟨g, k * 6, none⟩)) rfl (by kernel_rfl) (by kernel_rfl) (by kernel_rfl) (fun _ _ _ h => h) (Or.inl ⟨by rfl, fun W hW => by clear hW; go_simp⟩) trivial ?_
              simp only [List.getElem_toArray, List.getElem_cons_zero, List.getElem_cons_succ, Act.put, List.setIfInBounds_toArray, List.set_cons_zero, List.set_cons_succ]
              refine wpAnyH_ready (rs := [15]) (by kernel_rfl) (by simp) ?_
              refine AllReadyH.cons rfl (fun K hK => ?_) AllReadyH.nil
              rw [if_pos (by rfl)]
              refine wp_store_rowQ (.tmp 51) (.tmp 46) rfl base g (k * 6) n c k L p rfl rfl HOd.out HLN.out rfl (by omega) ?_
              intro w5 hO5 hT5
              refine hK.out _ _ trivial (fun _ => ?_)
              clear hK K
              simp only [List.getElem_toArray, List.getElem_cons_zero, List.getElem_cons_succ, Act.put]
              refine wpAnyH_take (i := 16) (v := .pointer (some ⟨g, (k - 1) * 6, none⟩)) rfl (by kernel_rfl) (by kernel_rfl) (by kernel_rfl) (fun _ _ _ h => h) (Or.inl ⟨by rfl, fun W hW => by clear hW; go_simp⟩) trivial ?_
              simp only [List.getElem_toArray, List.getElem_cons_zero, List.getElem_cons_succ, Act.put, List.setIfInBounds_toArray, List.set_cons_zero, List.set_cons_succ]
              refine wpAnyH_ready (rs := [17]) (by kernel_rfl) (by simp) ?_
              refine AllReadyH.cons rfl (fun K hK => ?_) AllReadyH.nil
              rw [if_pos (by rfl)]
              refine wp_store_rowQ (.tmp 52) (.tmp 50) rfl base g ((k - 1) * 6) n c (k - 1) (L.set k p) v rfl rfl hO5 (by rw [List.length_set]; exact HLN.out) rfl (by omega) ?_
              intro w6 hO6 hT6
              refine hK.out _ _ trivial (fun _ => ?_)
              clear hK K
              simp only [List.getElem_toArray, List.getElem_cons_zero, List.getElem_cons_succ, Act.put]
              refine wpAnyH_done (by kernel_rfl) ?_ _
              rw [HSW.out] at hO6
              have HB6 := Hid.mk ((HBd.out.trans hT5).trans hT6)
              go_wp2_with fail
              go_roundw
              case rel => exact ⟨k - 1, by omega, by go_num, HAT2, Hid.mk hO6, HB6⟩
              case measure => simp [intOf]; omega
          · have hqd : decide (q < 0) = false := by rw [hql]; simpa using hl
            have HKX := Hid.mk (HATK.out.trans (if_neg hl))
            clear hql hl
            go_wp2_with fail
            refine wp_region_quiet_below (by kernel_rfl) (by kernel_rfl) ?_
            repeat (go_big_quiet_step ((go_at_call 23; with_reducible_and_instances exact Calls.regrown_of (HCQ.out _ (HBR.out _ _)))))
            refine wpQuiet_nil ?_
            intro _ hw'
            obtain ⟨⟨dq, osq⟩, hw''⟩ := hw'
            have hbq := below_regrown wr dq osq
            rw [hw'']
            generalize grow (redrawn wr dq) osq = w4 at *
            clear hw'' rf0 rf1 rf2 rf3 rf4 rf5 rg0 rg1 rg2 rg3 rg4 rg5 HBR
            have HOx := Hid.mk (ownsRow_below HOk.out hbq)
            have HBx := Hid.mk (HBk.out.trans (Tch.of hbq))
            clear hbq
            go_wp2_with fail
            go_roundw
            case rel =>
              refine ⟨m + 1, by omega, .inl (by omega), by go_num, Hid.mk ?_, HBx⟩
              rw [HNX.out, ← HREQ.out, ← mid_stop, HATF.out, HAT.out, HKX.out]
              exact HOx.out
            case measure => simp [intOf]; omega
        · obtain rfl : k = 0 := by omega
          have HKX := Hid.mk (show atE nm NS 0 = 0 from rfl)
          go_wp2_with fail
          go_quiet (fail)
          have HOx := Hid.mk (show (wr.drewN nq).ownsRow base 25 6 (.slice (some ⟨g, 0, none⟩) n c) n (frC (midV P 0 v R)) from HOk.out)
          have HBx := Hid.mk (HBk.out.trans (Tch.of (show Below wr.heap.size wr (wr.drewN nq) from ⟨rfl, rfl, rfl, Nat.le_refl _, fun _ _ => rfl⟩)))
          go_wp2_with fail
          go_roundw
          case rel =>
            refine ⟨m + 1, by omega, .inl (by omega), by go_num, Hid.mk ?_, HBx⟩
            rw [HNX.out, ← HREQ.out, ← mid_stop, HATF.out, HAT.out, HKX.out]
            exact HOx.out
          case measure => simp [intOf]; omega
    · have e : mrgV [] (l.take m) ++ l.drop m = mrgV [] l := by
        by_cases h : n ≤ m
        · rw [List.take_of_length_le (by rw [HL.out]; exact h), List.drop_of_length_le (by rw [HL.out]; exact h), List.append_nil]
        · omega
      rw [e] at HOm
      have hnl : ¬ (m : Int) < (n : Int) := by omega
      go_wp2_with fail
      go_end0
      exact ⟨rfl, HOm.out, HB.out⟩
end Bw
end Go.Proofs.YthdffdobkampaaaDoor

/- What slices.SortStableFunc answers of at most nineteen right frames. -/
namespace Go.Proofs.YthdffdobkampaaaDoor
open Go.ChangeShapes Go.WideShapes Go.ChangeAt Go.RowKit
namespace Bw
open Bm Cm
set_option maxHeartbeats 1000000 in
set_option maxRecDepth 100000 in
theorem insSort_nil (w : World) :
    Calls Tryd.prog 50 #[.slice none 0 0, .int .i64 0, .int .i64 0, .func (.func 23) #[] #[]] w fun e w' => e = .returned (.tuple #[]) ∧ w' = w := by
  go_enter Tryd.func50, Tryd.ntmps50
  go_wp2_with fail
  go_loopw [8] (fun i wr => i = .int .i64 1 ∧ wr = w) (fun _ _ => 0)
  case atStart => exact ⟨rfl, rfl⟩
  case round =>
    obtain ⟨rfl, rfl⟩ := hrel
    go_wp2_with fail
    go_end0
    exact ⟨rfl, rfl⟩
/-- of what was there only the row's own block has turned -/
def TchV (r : Value) (w w' : World) : Prop := ∃ gs : List Nat, (∀ g ∈ gs, r.ownBlock = some g) ∧ Tch gs w w'
theorem insSort_row (r : Value) (n base : Nat) (l : List FrV) (w : World) (hD : w.cell? ⟨4, 1, none⟩ = some (.int .u8 1)) (hDb : 4 < base) (hl : l.length = n) (hn : n ≤ 100) (hO : w.ownsRow base 25 6 r n (frC l)) (hE : ∀ u ∈ l, frE u.f = 0) :
    Calls Tryd.prog 50 #[r, .int .i64 0, .int .i64 n, .func (.func 23) #[] #[]] w fun e w' => e = .returned (.tuple #[]) ∧ w'.ownsRow base 25 6 r n (frC (mrgV [] l)) ∧ TchV r w w' := by
  rcases hO.2 with ⟨h1, h2⟩ | ⟨g, c, cur, h1, hbg, _⟩
  · subst h1
    subst h2
    have hl0 : l = [] := List.eq_nil_of_length_eq_zero hl
    subst hl0
    refine (insSort_nil w).mono ?_
    rintro e w' ⟨rfl, rfl⟩
    exact ⟨rfl, hO, [], (fun g hg => by cases hg), Tch.refl _ _⟩
  · subst h1
    refine (insSort_any g n c base l w hD hDb hl hn hO hbg hE).mono ?_
    rintro e w' ⟨h1, h2, h3⟩
    exact ⟨h1, h2, [g], (fun k hk => by rw [List.mem_singleton] at hk; subst hk; rfl), h3⟩
set_option maxHeartbeats 1000000 in
set_option maxRecDepth 100000 in
theorem stable_row (a : Option Addr) (c n base : Nat) (l : List FrV) (w : World) (hD : w.cell? ⟨4, 1, none⟩ = some (.int .u8 1)) (hDb : 4 < base) (hl : l.length = n) (hn : n < 20) (hO : w.ownsRow base 25 6 (.slice a n c) n (frC l)) (hE : ∀ u ∈ l, frE u.f = 0) :
    Calls Tryd.prog 39 #[.slice a n c, .int .i64 n, .func (.func 23) #[] #[]] w fun e w' => e = .returned (.tuple #[]) ∧ w'.ownsRow base 25 6 (.slice a n c) n (frC (mrgV [] l)) ∧ TchV (.slice a n c) w w' := by
  have H1 := Hid.mk (insSort_row (.slice a n c) n base l w hD hDb hl (by omega) hO hE)
  have h20 : ¬ (20 : Int) ≤ (n : Int) := by omega
  have h21 : ¬ (20 : Int) < (n : Int) := by omega
  clear hD hDb hl hO hE
  go_enter Tryd.func39, Tryd.ntmps39
  go_wp2_with fail
  go_loopw [7, 8] (fun x y wr => x = .int .i64 0 ∧ y = .int .i64 20 ∧ wr = w) (fun _ _ _ => 0)
  case atStart => exact ⟨rfl, rfl, rfl⟩
  case round =>
    obtain ⟨rfl, rfl, rfl⟩ := hrel
    go_wp2_with fail
    refine H1.out.mono ?_
    rintro e w1 ⟨rfl, ho1, hb1⟩
    have HO1 := Hid.mk ho1
    have HB1 := Hid.mk hb1
    clear ho1 hb1
    go_wp2_with fail
    go_loopw [6, 7, 8, 9] (fun x _ _ _ wr => x = .int .i64 20 ∧ wr = w1) (fun _ _ _ _ _ => 0)
    case atStart => exact ⟨rfl, rfl⟩
    case round =>
      obtain ⟨rfl, rfl⟩ := hrel
      go_wp2_with fail
      go_end0
      exact ⟨rfl, HO1.out, HB1.out⟩
set_option maxHeartbeats 1000000 in
theorem sortStable_row (a : Option Addr) (c n base : Nat) (l : List FrV) (w : World) (hD : w.cell? ⟨4, 1, none⟩ = some (.int .u8 1)) (hDb : 4 < base) (hl : l.length = n) (hn : n < 20) (hO : w.ownsRow base 25 6 (.slice a n c) n (frC l)) (hE : ∀ u ∈ l, frE u.f = 0) :
    Calls Tryd.prog 22 #[.slice a n c, .func (.func 23) #[] #[]] w fun e w' => e = .returned (.tuple #[]) ∧ w'.ownsRow base 25 6 (.slice a n c) n (frC (mrgV [] l)) ∧ TchV (.slice a n c) w w' := by
  have H1 := Hid.mk (stable_row a c n base l w hD hDb hl hn hO hE)
  clear hD hDb hl hO hE
  go_enter Tryd.func22, Tryd.ntmps22
  go_wp2_with fail
  refine H1.out.mono ?_
  rintro e w1 ⟨rfl, ho1, hb1⟩
  go_wp2_with fail
  go_end0
  exact ⟨rfl, ho1, hb1⟩
end Bw
end Go.Proofs.YthdffdobkampaaaDoor

/- The closed fact that each law of queues asks for: two frames, put and taken. -/
namespace Go.Proofs.YthdffdobkampaaaDoor
open Go.ChangeShapes Go.WideShapes Go.ChangeAt Go.RowKit
namespace Bw
open Bm Cm
def fq (i : Int) : Fr := ⟨i, false, false, false, 0, []⟩
def vq (i : Int) : FrV := ⟨fq i, none, 0, 0⟩
theorem queued_put : putE [vq 5] (fq 3) = 0 := by decide +kernel
theorem queued_two : (putF [fq 5] (fq 3)).map (·.id) = [3, 5] := by decide +kernel
theorem queued_len : (putF [fq 5] (fq 3)).length = 2 := by decide +kernel
theorem queued_chk : chkQ (putF [fq 5] (fq 3)) = 0 := by decide +kernel
theorem nilBytesQ (w : World) : IsBytes w none 0 0 [] := ⟨rfl, Nat.le_refl _, Nat.zero_le _, fun _ => rfl, fun x hx => by cases hx⟩
theorem one_frame (w : World) (v : FrV) (hv : IsBytes w v.a v.len v.cap v.f.dt) : IsFrames (w.alloc (.cells v.cells.toArray 25)) (some ⟨w.heap.size, 0, none⟩) 1 1 [v] := by
  refine ⟨rfl, Nat.le_refl _, by unfold maxLen; decide, (fun h => by cases h), ?_, ?_⟩
  · intro x hx i hi k hk
    cases hx
    have hi0 : i = 0 := by simp at hi; exact hi
    subst hi0
    have e : (Addr.add ⟨w.heap.size, 0, none⟩ (0 * 6 + k)) = ⟨w.heap.size, 0 + (0 * 6 + k), none⟩ := Addr.add_mid _ _ _
    rw [e, Nat.zero_mul, Nat.zero_add, Nat.zero_add, cell_of_row _ _ k _ _ _ (heap_alloc_new w _), List.getElem?_toArray]
    exact List.getElem?_eq_getElem (show k < v.cells.length from hk)
  · intro i hi
    have hi0 : i = 0 := by simp at hi; exact hi
    subst hi0
    exact isBytes_below hv ((Below.refl _ _).alloc (Nat.le_refl _) _)
set_option maxHeartbeats 1000000 in
set_option maxRecDepth 100000 in
theorem queued_any (w : World) (hS : SizesAt w) :
    Calls Tryd.prog 12 #[] w fun e w' => e = .returned (.bool true) ∧ Below w.heap.size w w' := by
  have hb0 : Below w.heap.size w (w.alloc (.cells (vq 5).cells.toArray 25)) := (Below.refl _ _).alloc (Nat.le_refl _) _
  have h1 := Put_any (some ⟨w.heap.size, 0, none⟩) 1 1 [vq 5] (vq 3) _ (hS.kept hb0) (one_frame w (vq 5) (nilBytesQ w)) (nilBytesQ _)
  have e1 : putE [vq 5] (vq 3).f = 0 := queued_put
  rw [e1] at h1
  have H1 := Hid.mk h1
  have HB0 := Hid.mk hb0
  have HS := Hid.mk hS
  unfold frameV at H1
  clear h1 e1 hb0 hS
  go_enter Tryd.func12, Tryd.ntmps12
  go_wp2_with fail
  refine H1.out.mono ?_
  rintro e w1 ⟨r, l1, rfl, ho, hf, -, hb1⟩
  have hf := hf trivial
  have hb01 := bl2 HB0.out hb1
  obtain ⟨a1, c1, rfl, hF1⟩ := ho.frames
  have hf' : l1.map (·.f) = putF [fq 5] (fq 3) := hf
  have hl1 : l1.length = 2 := by have := congrArg List.length hf'; rw [List.length_map, queued_len] at this; exact this
  rw [hl1] at hF1 ⊢
  have h2 := take_ok a1 2 c1 l1 w1 (HS.out.kept hb01) hF1 (by rw [hf']; exact queued_chk) (by decide)
  have H2 := Hid.mk h2
  have HB1 := Hid.mk hb01
  have hid : l1.map (fun v => v.f.id) = [3, 5] := by
    have := congrArg (List.map (·.id)) hf'
    rw [List.map_map, queued_two] at this
    exact this
  have HID := Hid.mk hid
  clear h2 hb1 hb01 ho hf hf' hF1 H1 hid
  go_wp2_with fail
  refine H2.out.mono ?_
  rintro e w2 ⟨v, x, c, l2, rfl, hfl, hY2, hF2, hb2⟩
  have hids : v.f.id :: l2.map (fun u => u.f.id) = [3, 5] := by
    have := congrArg (List.map (·.id)) hfl
    rw [List.map_map, List.map_cons, List.map_map] at this
    exact this.trans HID.out
  obtain ⟨⟨id, lo, fa, re, sz, dt⟩, va, vl, vc⟩ := v
  have hid3 : id = 3 := by injection hids
  have hid5 : l2.map (fun u => u.f.id) = [5] := by injection hids
  subst hid3
  have hx0 : w2.cell? x = some (.int .i64 5) := by
    have hl2 : l2.length = 1 := hF2.len
    have h3 := hF2.cell x rfl 0 (by omega) 0 (by decide)
    have h4 : (l2[0]'(by omega)).f.id = 5 := by
      have h5 : (l2.map (fun u => u.f.id))[0]? = some 5 := by rw [hid5]; rfl
      rw [List.getElem?_map, List.getElem?_eq_getElem (by omega)] at h5
      exact Option.some.inj h5
    have ex : x.add (0 * 6 + 0) = x := by unfold Addr.add; simp
    rw [ex] at h3
    rw [h3, ← h4]; rfl
  have HB2 := Hid.mk (bl2 HB1.out hb2)
  have hbx := below_box w2 3 lo fa re sz va vl vc
  have hx1 := cell_kept hbx hx0
  have HBX := Hid.mk hbx
  unfold frameC at hx1 HBX
  clear hfl hY2 hF2 hb2 hids hid5 hx0 H2 hbx
  simp only [FrV.cells]
  go_wp2_with fail
  go_ret
  exact ⟨rfl, bl2 HB2.out HBX.out⟩
end Bw
end Go.Proofs.YthdffdobkampaaaDoor

/- What bytes.Equal and frame.Same answer. -/
namespace Go.Proofs.YthdffdobkampaaaDoor
open Go.ChangeShapes Go.WideShapes Go.ChangeAt Go.RowKit
namespace Bw
open Bm Cm Classical

theorem convert_bytes {w : World} {a : Option Addr} {len cap : Nat} {l : List UInt8} (h : IsBytes w a len cap l) :
    (convert 23 9 (.slice a len cap)).run Tryd.prog w = .ok (.string ⟨l.toArray⟩) w := by
  obtain ⟨h1, h2, h3, h4, h5⟩ := h
  cases a with
  | none =>
    have h0 := h4 rfl
    subst h0
    have hl : l = [] := List.eq_nil_of_length_eq_zero h1
    subst hl
    exact run_convert_bytes_nil w 23 5 Tryd.underlying23 Tryd.underlying5 0 cap 9 Tryd.underlying9
  | some x =>
    have := run_convert_bytes_back w 23 9 5 x cap l Tryd.underlying23 Tryd.underlying5 Tryd.underlying9 (fun j hj => by
      rw [h5 x rfl j (by omega)]
      simp [List.getD, hj])
    rw [h1] at this
    exact this
theorem ba_listEq {A B : ByteArray} {x y : List UInt8} (hA : A.data.toList = x) (hB : B.data.toList = y) : (A.toList == B.toList) = decide (x = y) := by
  rw [ByteArray.toList_eq, ByteArray.toList_eq, hA, hB, Bool.eq_iff_iff, beq_iff_eq, decide_eq_true_iff]
set_option maxHeartbeats 1000000 in
theorem bytesEqual_any (a1 a2 : Option Addr) (n1 c1 n2 c2 : Nat) (l1 l2 : List UInt8) (w : World) (h1 : IsBytes w a1 n1 c1 l1) (h2 : IsBytes w a2 n2 c2 l2) :
    Calls Tryd.prog 41 #[.slice a1 n1 c1, .slice a2 n2 c2] w fun e w' => e = .returned (.bool (decide (l1 = l2))) ∧ w' = w := by
  have k1 := convert_bytes h1
  have k2 := convert_bytes h2
  have hl1 := mk_list l1
  have hl2 := mk_list l2
  have hz1 : l1.length ≤ maxLen := by rw [h1.1]; have := h1.2.1; have := h1.2.2.1; omega
  have hz2 : l2.length ≤ maxLen := by rw [h2.1]; have := h2.2.1; have := h2.2.2.1; omega
  generalize ByteArray.mk l1.toArray = A at *
  generalize ByteArray.mk l2.toArray = B at *
  have he := ba_listEq hl1 hl2
  rw [← he]
  clear h1 h2 hl1 hl2 he hz1 hz2
  go_enter Tryd.func41, Tryd.ntmps41
  go_wp2_with fail
  go_ret
  exact ⟨rfl, rfl⟩

set_option maxHeartbeats 8000000 in
theorem same_any (f g : Fr) (a1 a2 : Option Addr) (n1 c1 n2 c2 : Nat) (w : World) (h1 : IsBytes w a1 n1 c1 f.dt) (h2 : IsBytes w a2 n2 c2 g.dt) :
    Calls Tryd.prog 25 #[frameV f.id f.lo f.fa f.re f.sz a1 n1 c1, frameV g.id g.lo g.fa g.re g.sz a2 n2 c2] w fun e w' => e = .returned (.bool (decide (f = g))) ∧ Below w.heap.size w w' := by
  obtain ⟨id1, lo1, fa1, re1, sz1, dt1⟩ := f
  obtain ⟨id2, lo2, fa2, re2, sz2, dt2⟩ := g
  simp only at h1 h2 ⊢
  have hB1 := below_box w id1 lo1 fa1 re1 sz1 a1 n1 c1
  have hB2 := below_box (w.alloc (frameC id1 lo1 fa1 re1 sz1 a1 n1 c1)) id2 lo2 fa2 re2 sz2 a2 n2 c2
  have hB := bl2 hB1 hB2
  have HY1 := Hid.mk (isBytes_below h1 hB)
  have HY2 := Hid.mk (isBytes_below h2 hB)
  have HB := Hid.mk hB
  unfold frameC at HY1 HY2 HB
  unfold frameV
  clear h1 h2 hB1 hB2 hB
  by_cases hid : id1 = id2
  · subst hid
    by_cases hlo : lo1 = lo2
    · subst hlo
      by_cases hfa : fa1 = fa2
      · subst hfa
        by_cases hre : re1 = re2
        · subst hre
          by_cases hsz : sz1 = sz2
          · subst hsz
            by_cases hdt : dt1 = dt2
            · have hd : decide (dt1 = dt2) = true := by simpa using hdt
              have hbe := fun W hW1 hW2 => bytesEqual_any a1 a2 n1 c1 n2 c2 dt1 dt2 W hW1 hW2
              rw [hd] at hbe
              have HBE := Hid.mk hbe
              have hr : decide ((⟨id1, lo1, fa1, re1, sz1, dt1⟩ : Fr) = ⟨id1, lo1, fa1, re1, sz1, dt2⟩) = true := by simp [hdt]
              rw [hr]
              clear hbe hd hr hdt
              go_enter Tryd.func25, Tryd.ntmps25
              go_wp2_with fail
              refine (HBE.out _ HY1.out HY2.out).mono ?_
              rintro e w1 ⟨rfl, hw1⟩
              subst hw1
              go_wp2_with fail
              go_ret
              exact ⟨rfl, HB.out⟩
            · have hd : decide (dt1 = dt2) = false := by simpa using hdt
              have hbe := fun W hW1 hW2 => bytesEqual_any a1 a2 n1 c1 n2 c2 dt1 dt2 W hW1 hW2
              rw [hd] at hbe
              have HBE := Hid.mk hbe
              have hr : decide ((⟨id1, lo1, fa1, re1, sz1, dt1⟩ : Fr) = ⟨id1, lo1, fa1, re1, sz1, dt2⟩) = false := by simp [hdt]
              rw [hr]
              clear hbe hd hr hdt
              go_enter Tryd.func25, Tryd.ntmps25
              go_wp2_with fail
              refine (HBE.out _ HY1.out HY2.out).mono ?_
              rintro e w1 ⟨rfl, hw1⟩
              subst hw1
              go_wp2_with fail
              go_ret
              exact ⟨rfl, HB.out⟩
          · have hb : (sz1 == sz2) = false := by simpa using hsz
            have hr : decide ((⟨id1, lo1, fa1, re1, sz1, dt1⟩ : Fr) = ⟨id1, lo1, fa1, re1, sz2, dt2⟩) = false := by simp [hsz]
            rw [hr]
            clear hr hsz
            go_enter Tryd.func25, Tryd.ntmps25
            go_wp2_with fail
            go_ret
            exact ⟨rfl, HB.out⟩
        · have hb : (re1 == re2) = false := by simpa using hre
          have hr : decide ((⟨id1, lo1, fa1, re1, sz1, dt1⟩ : Fr) = ⟨id1, lo1, fa1, re2, sz2, dt2⟩) = false := by simp [hre]
          rw [hr]
          clear hr hre
          go_enter Tryd.func25, Tryd.ntmps25
          go_wp2_with fail
          go_ret
          exact ⟨rfl, HB.out⟩
      · have hb : (fa1 == fa2) = false := by simpa using hfa
        have hr : decide ((⟨id1, lo1, fa1, re1, sz1, dt1⟩ : Fr) = ⟨id1, lo1, fa2, re2, sz2, dt2⟩) = false := by simp [hfa]
        rw [hr]
        clear hr hfa
        go_enter Tryd.func25, Tryd.ntmps25
        go_wp2_with fail
        go_ret
        exact ⟨rfl, HB.out⟩
    · have hb : (lo1 == lo2) = false := by simpa using hlo
      have hr : decide ((⟨id1, lo1, fa1, re1, sz1, dt1⟩ : Fr) = ⟨id1, lo2, fa2, re2, sz2, dt2⟩) = false := by simp [hlo]
      rw [hr]
      clear hr hlo
      go_enter Tryd.func25, Tryd.ntmps25
      go_wp2_with fail
      go_ret
      exact ⟨rfl, HB.out⟩
  · have hb : (id1 == id2) = false := by simpa using hid
    have hr : decide ((⟨id1, lo1, fa1, re1, sz1, dt1⟩ : Fr) = ⟨id2, lo2, fa2, re2, sz2, dt2⟩) = false := by simp [hid]
    rw [hr]
    clear hr hid
    go_enter Tryd.func25, Tryd.ntmps25
    go_wp2_with fail
    go_ret
    exact ⟨rfl, HB.out⟩
end Bw
end Go.Proofs.YthdffdobkampaaaDoor

/- The state of QueueRow's first loop, and what the sort leaves of it. -/
namespace Go.Proofs.YthdffdobkampaaaDoor
open Go.ChangeShapes Go.WideShapes Go.ChangeAt Go.RowKit
namespace Bw
open Bm Cm
structure RowSt (w0 wr : World) (l : List FrV) (rq rw : Value) (lq lw : List FrV) : Prop where
  q : ∃ b, OwnFrs wr b rq lq
  w : wr.ownsRow w0.heap.size 25 6 rw lw.length (frC lw)
  mem : ∀ u ∈ lw, u ∈ l
  ok : ∀ u ∈ lw, frE u.f = 0
  eq : lq.map (·.f) = mrgF [] (lw.map (·.f))
  chk : chkQ (lq.map (·.f)) = 0
  apart : ∀ b, rw.ownBlock = some b → rq.ownBlock ≠ some b ∧ ∀ u ∈ lq, u.f.dt ≠ [] → ∀ x, u.a = some x → x.block ≠ b
  bel : Below w0.heap.size w0 wr
theorem RowSt.start (w0 : World) (l : List FrV) : RowSt w0 w0 l (.slice none 0 0) (.slice none 0 0) [] [] :=
  ⟨⟨0, OwnFrs.nil _ _⟩, World.ownsRow_nil _ _ _ _, (fun u hu => by cases hu), (fun u hu => by cases hu), rfl, rfl, (fun b hb => by cases hb), Below.refl _ _⟩
theorem RowSt.kept {w0 wr w' : World} {l : List FrV} {rq rw : Value} {lq lw : List FrV} (h : RowSt w0 wr l rq rw lq lw) (hb : Below wr.heap.size wr w') : RowSt w0 w' l rq rw lq lw :=
  ⟨by obtain ⟨b, hq⟩ := h.q; exact ⟨b, hq.kept hb⟩, ownsRow_below h.w hb, h.mem, h.ok, h.eq, h.chk, h.apart, bl2 h.bel hb⟩
theorem RowSt.len {w0 wr : World} {l : List FrV} {rq rw : Value} {lq lw : List FrV} (h : RowSt w0 wr l rq rw lq lw) : lq.length = lw.length := by
  have := congrArg List.length h.eq
  rw [List.length_map, mrgF_len, List.length_map] at this
  simpa using this
theorem data_lt {w : World} {a : Option Addr} {len cap : Nat} {dt : List UInt8} (h : IsBytes w a len cap dt) (hne : dt ≠ []) (x : Addr) (hx : a = some x) : x.block < w.heap.size := by
  obtain ⟨c, t, hd⟩ : ∃ c t, dt = c :: t := by cases dt with | nil => exact absurd rfl hne | cons c t => exact ⟨c, t, rfl⟩
  have hl : 0 < len := by have := h.1; rw [hd] at this; simp at this; omega
  have hlt := block_lt_of_cell (h.2.2.2.2 x hx 0 hl)
  have hblk : (x.add 0).block = x.block := by unfold Addr.add; split <;> rfl
  rw [hblk] at hlt
  exact hlt
theorem RowSt.put {w0 wr w1 w2 w4 w3 : World} {l : List FrV} {rq rw rp rw' : Value} {lq lw lp : List FrV} {v : FrV} (h : RowSt w0 wr l rq rw lq lw) (hb1 : Below wr.heap.size wr w1) (hp : OwnFrs w2 w1.heap.size rp lp) (hb2 : Below w1.heap.size w1 w2) (hba : Below w2.heap.size w2 w4)
    (hf : lp.map (·.f) = putF (lq.map (·.f)) v.f) (hv : v ∈ l) (hE : frE v.f = 0) (hlen : lq.length < 16) (hrow : w3.ownsRow w0.heap.size 25 6 rw' (lw.length + 1) (frC lw ++ v.cells)) (hg : w4.grownBy w3 rw.ownBlock) (hb : rw'.ownBlock = rw.ownBlock ∨ rw'.ownBlock = some w4.heap.size) :
    RowSt w0 w3 l rp rw' lp (lw ++ [v]) := by
  have hlt := own_lt h.w
  have hs1 := hb1.size
  have hs2 := hb2.size
  have hs4 := hba.size
  have hpl : ∀ k, rp.ownBlock = some k → w1.heap.size ≤ k ∧ k < w2.heap.size := fun k hk => ⟨(hp.row.lt k hk).1, own_lt hp.row k hk⟩
  refine ⟨⟨w1.heap.size, ?_⟩, ?_, ?_, ?_, ?_, ?_, ?_, ?_⟩
  · refine ⟨owns_beside (ownsRow_below hp.row hba) hg (fun k hk e => ?_), fun u hu => isBytes_grown (isBytes_below (hp.bytes u hu) hba) hg (fun _ x hx e => ?_), hp.apart, hp.fresh⟩
    · have := hlt k e.symm
      have := (hpl k hk).1
      omega
    · have := hlt _ e
      have := hp.fresh u hu x hx
      omega
  · have e : frC (lw ++ [v]) = frC lw ++ v.cells := by rw [frC_app]; unfold frC; simp
    rw [e, List.length_append]; exact hrow
  · intro u hu
    rcases List.mem_append.1 hu with hu | hu
    · exact h.mem u hu
    · rw [List.mem_singleton] at hu; subst hu; exact hv
  · intro u hu
    rcases List.mem_append.1 hu with hu | hu
    · exact h.ok u hu
    · rw [List.mem_singleton] at hu; subst hu; exact hE
  · rw [hf, h.eq, List.map_append]
    unfold mrgF
    rw [List.foldl_append]; rfl
  · rw [hf]
    exact putF_ok h.chk hE (by rw [List.length_map]; exact hlen)
  · intro b hbb
    rcases hb with e | e
    · rw [e] at hbb
      have := hlt b hbb
      refine ⟨fun hk => ?_, fun u hu _ x hx => ?_⟩
      · have := (hpl b hk).1; omega
      · have := hp.fresh u hu x hx; omega
    · rw [e] at hbb
      have hbe := Option.some.inj hbb
      refine ⟨fun hk => ?_, fun u hu hne x hx => ?_⟩
      · have := (hpl b hk).2; omega
      · have := data_lt (hp.bytes u hu) hne x hx; omega
  · exact Below.grown (bl2 (bl2 (bl2 h.bel hb1) hb2) hba) hg (by have := h.bel.size; omega) (fun k hk => (h.w.lt k hk).1)
theorem OwnFrs.tchv {gs : List Nat} {w w' : World} {b : Nat} {r : Value} {l : List FrV} (h : OwnFrs w b r l) (ht : Tch gs w w') (hr : ∀ g ∈ gs, r.ownBlock ≠ some g) (hd : ∀ g ∈ gs, ∀ u ∈ l, u.f.dt ≠ [] → ∀ x, u.a = some x → x.block ≠ g) : OwnFrs w' b r l := by
  refine ⟨?_, fun u hu => ?_, h.apart, h.fresh⟩
  · obtain ⟨h1, h2⟩ := h.row
    refine ⟨h1, ?_⟩
    rcases h2 with h2 | ⟨g, cap, cur, hv, hg, hh, r2⟩
    · exact .inl h2
    · refine .inr ⟨g, cap, cur, hv, hg, ?_, r2⟩
      rw [ht.block g (Array.getElem?_eq_some_iff.1 hh).1 (fun hm => hr g hm (by rw [hv]; rfl))]
      exact hh
  · have hby := h.bytes u hu
    refine ⟨hby.1, hby.2.1, hby.2.2.1, hby.2.2.2.1, fun x hx i hi => ?_⟩
    have hv := hby.2.2.2.2 x hx i hi
    have hlt := block_lt_of_cell hv
    have hblk : (x.add i).block = x.block := by unfold Addr.add; split <;> rfl
    have hne : u.f.dt ≠ [] := by intro e; have := hby.1; rw [e] at this; simp at this; omega
    unfold World.cell? at hv ⊢
    rw [ht.block _ hlt (by rw [hblk]; exact fun hm => hd _ hm u hu hne x hx rfl)]
    exact hv
theorem chk_drop {l : List Fr} (h : chkQ l = 0) (k : Nat) : chkQ (l.drop k) = 0 := by
  obtain ⟨h1, h2, h3⟩ := chk_ok h
  exact ok_chk (by rw [List.length_drop]; omega) (fun f hf => h2 f (List.mem_of_mem_drop hf)) (h3.sublist (List.drop_sublist _ _))
/-- behind the sort: both lists as they then lie -/
theorem RowSt.sorted {w0 wr w' : World} {l : List FrV} {rq rw : Value} {lq lw : List FrV} (h : RowSt w0 wr l rq rw lq lw) (hY : ∀ u ∈ l, IsBytes w0 u.a u.len u.cap u.f.dt) (hrow : w'.ownsRow w0.heap.size 25 6 rw lw.length (frC (mrgV [] lw))) (ht : TchV rw wr w') :
    (∃ aq cq, rq = .slice aq lw.length cq ∧ IsFrames w' aq lw.length cq lq) ∧ (∃ aw cw, rw = .slice aw lw.length cw ∧ IsFrames w' aw lw.length cw (mrgV [] lw)) ∧ (mrgV [] lw).map (·.f) = lq.map (·.f) ∧ Below w0.heap.size w0 w' := by
  obtain ⟨gs, hgs, htc⟩ := ht
  obtain ⟨b, hq⟩ := h.q
  have hb : Below w0.heap.size w0 w' := Tch.below h.bel htc (fun g hg => (h.w.lt g (hgs g hg)).1) (Nat.le_refl _)
  have hq' := hq.tchv htc (fun g hg => (h.apart g (hgs g hg)).1) (fun g hg u hu hne x hx => (h.apart g (hgs g hg)).2 u hu hne x hx)
  refine ⟨?_, ?_, ?_, hb⟩
  · obtain ⟨aq, cq, h1, h2⟩ := hq'.frames
    rw [h.len] at h1 h2
    exact ⟨aq, cq, h1, h2⟩
  · refine frames_of_row hrow (by rw [mrgV_len]; simp) (fun u hu => ?_)
    rcases mrgV_mem _ _ _ hu with hu | hu
    · cases hu
    · exact isBytes_below (hY u (h.mem u hu)) hb
  · rw [mrgV_f, h.eq]; rfl
end Bw
end Go.Proofs.YthdffdobkampaaaDoor

/- QueueRow's walk. -/
namespace Go.Proofs.YthdffdobkampaaaDoor
open Go.ChangeShapes Go.WideShapes Go.ChangeAt Go.RowKit
namespace Bw
open Bm Cm Classical
theorem own_slice {w : World} {base n : Nat} {r : Value} {xs : List Value} (h : w.ownsRow base 25 6 r n xs) : ∃ a c, r = .slice a n c := by
  rcases h.2 with ⟨h1, h2⟩ | ⟨g, cap, cur, h1, _⟩
  · subst h2; exact ⟨none, 0, h1⟩
  · exact ⟨_, cap, h1⟩
theorem putE_zero {l : List FrV} {f : Fr} (h : putE l f = 0) : frE f = 0 ∧ l.length ≠ 16 := by
  unfold putE at h
  split at h
  · rename_i h1
    split at h
    · cases h
    · rename_i h2
      refine ⟨?_, h2⟩
      unfold leE at h1
      split at h1
      · exact h1
      · rename_i h3; exact absurd h1 h3
  · rename_i h1; exact absurd h h1
set_option maxHeartbeats 4000000 in
set_option maxRecDepth 100000 in
theorem row_walk (a : Option Addr) (n cap : Nat) (l : List FrV) (w : World) (hS : SizesAt w) (hD : w.cell? ⟨4, 1, none⟩ = some (.int .u8 1)) (hF : IsFrames w a n cap l) :
    Calls Tryd.prog 5 #[.slice a n cap] w fun e w' => e = .returned (.bool true) ∧ Below w.heap.size w w' := by
  obtain ⟨i0, hi, hz0, hz1, hz2⟩ := info_parts info_fr
  have hmx : n ≤ 9223372036854775807 := by have := Nat.le_trans hF.le hF.max; unfold maxLen at this; omega
  have HF := Hid.mk hF
  have HS := Hid.mk hS
  have HD := Hid.mk hD
  have HLEN := Hid.mk hF.len
  have HQ := Hid.mk (fun W (hW : Below w.heap.size w W) => queued_any W (hS.kept hW))
  clear hF hS hD
  go_enter Tryd.func5, Tryd.ntmps5
  go_wp2_with fail
  go_loopw [3, 4, 16] (fun rq rw i wr => ∃ (k : Nat) (lq lw : List FrV), k ≤ n ∧ i = .int .i64 k ∧ Hid (RowSt w wr l rq rw lq lw)) (fun _ _ i _ => n - (intOf i).toNat)
  case atStart => exact ⟨0, [], [], Nat.zero_le _, rfl, Hid.mk (RowSt.start w l)⟩
  case round =>
    obtain ⟨k, lq, lw, hk, rfl, HR⟩ := hrel
    obtain ⟨bq, hq⟩ := HR.out.q
    obtain ⟨aq, cq, hrq, hFq⟩ := hq.frames
    subst hrq
    obtain ⟨aw, cw, hrw⟩ := own_slice HR.out.w
    subst hrw
    have hN16 : lq.length ≤ 16 := by obtain ⟨q, _⟩ := chk_ok HR.out.chk; rw [List.length_map] at q; exact q
    have hlw := HR.out.len
    have HLQ := Hid.mk (show lq.length = lq.length from rfl)
    have HFQ := Hid.mk hFq
    clear hq hFq HLQ
    by_cases hlt : k < n
    · have hlt' : (k : Int) < (n : Int) := by omega
      have hkl : k < l.length := by rw [HLEN.out]; exact hlt
      cases a with
      | none => exact absurd (HF.out.none rfl) (by omega)
      | some x =>
        have hB := HR.out.bel
        have cc := fun (j : Nat) (hj : j < 6) => cell_kept hB (HF.out.cell x rfl k hkl j hj)
        have hby := isBytes_below (HF.out.bytes k hkl) hB
        have hmem := List.getElem_mem hkl
        generalize l[k] = v at *
        have HMEM := Hid.mk hmem
        obtain ⟨⟨id, lo, fa, re, sz, dt⟩, va, vl, vc⟩ := v
        simp only at hby
        have cl0 := cc 0 (by omega)
        have cl1 := cc 1 (by omega)
        have cl2 := cc 2 (by omega)
        have cl3 := cc 3 (by omega)
        have cl4 := cc 4 (by omega)
        have cl5 := cc 5 (by omega)
        rw [add_nextQ] at cl1 cl2 cl3 cl4 cl5
        rw [Nat.add_zero] at cl0
        simp only [FrV.cells, List.getElem_cons_zero, List.getElem_cons_succ, Nat.reduceAdd] at cl0 cl1 cl2 cl3 cl4 cl5
        have hbx := below_box wr id lo fa re sz va vl vc
        have hpt := Put_any aq lq.length cq lq ⟨⟨id, lo, fa, re, sz, dt⟩, va, vl, vc⟩ _ (HS.out.kept (bl2 hB hbx)) (HFQ.out.kept hbx) (isBytes_below hby hbx)
        have HPT := Hid.mk hpt
        have HBX := Hid.mk hbx
        have HK0 := Hid.mk (FrAt.box wr id lo fa re sz va vl vc)
        unfold frameV at HPT
        unfold frameC at HPT HBX HK0
        simp only at HPT
        clear hB cc hby hmem hbx hpt
        obtain ⟨NQ, hNQ⟩ : ∃ NQ, NQ = lq.length := ⟨_, rfl⟩
        obtain ⟨NW, hNW⟩ : ∃ NW, NW = lw.length := ⟨_, rfl⟩
        rw [← hNQ] at HPT HR hN16 hlw ⊢
        rw [← hNW] at HR hlw ⊢
        have HNQ := Hid.mk hNQ
        have HNW := Hid.mk hNW
        have hNW16 : NW ≤ 16 := by omega
        clear hNQ hNW hlw
        by_cases hpe : putE lq ⟨id, lo, fa, re, sz, dt⟩ = 0
        · obtain ⟨hE, h16⟩ := putE_zero hpe
          have HEE := Hid.mk hE
          have H16 := Hid.mk h16
          rw [hpe] at HPT
          clear hE h16 hpe
          go_wp2_with fail
          refine HPT.out.mono ?_
          rintro e w2 ⟨rp, lp, rfl, hop, hfp, -, hb2⟩
          have hfp := hfp trivial
          obtain ⟨k0, k1, k2, k3, k4, k5⟩ := HK0.out.kept hb2
          have HR2 := Hid.mk (HR.out.kept (bl2 HBX.out hb2))
          have HOP := Hid.mk hop
          have HFP := Hid.mk hfp
          have HB2 := Hid.mk hb2
          have hbs2 := HR2.out.bel.size
          clear hop hfp hb2 cl0 cl1 cl2 cl3 cl4 cl5
          have HOW := Hid.mk HR2.out.w
          rw [← HNW.out] at HOW
          go_wp2_with (at_builtin; refine wpList_append_two rfl (.tmp 29) (.tmp 31) 22 rfl w.heap.size 25 i0 (.agg #[.int .i64 0, .bool false, .bool false, .bool false, .int .i64 0, .slice none 0 0]) 6 48 Tryd.underlying22 hi hz0 hz1 hz2 rfl (by decide) _ _ _ rfl (HOW.out.alloc _) ⟨w2.heap.size, 0, none⟩ 1 1 [.int .i64 id, .bool lo, .bool fa, .bool re, .int .i64 sz, .slice va vl vc] rfl rfl (new_cells rfl _ _) (by intro u hu; simp at hu; rcases hu with rfl | rfl | rfl | rfl | rfl | rfl <;> rfl) (by decide) (by unfold maxLen; omega) (by omega) (by simp; omega) ?_; intro v3 w3 hown3 hgrow3 hblk3)
          have hb4 : Below w2.heap.size w2 (w2.alloc (.cells #[.int .i64 id, .bool lo, .bool fa, .bool re, .int .i64 sz, .slice va vl vc] 25)) := (Below.refl _ _).alloc (Nat.le_refl _) _
          rw [HNW.out] at hown3
          have hst := HR.out.put (v := ⟨⟨id, lo, fa, re, sz, dt⟩, va, vl, vc⟩) HBX.out HOP.out HB2.out hb4 HFP.out HMEM.out HEE.out (by have := H16.out; have := HNQ.out; omega) hown3 hgrow3 hblk3
          have HST := Hid.mk hst
          clear hst hown3 hgrow3 hblk3 hb4 k0 k1 k2 k3 k4 k5
          go_wp2_with fail
          go_roundw
          case rel => exact ⟨k + 1, lp, _, by omega, by go_num, HST⟩
          case measure => simp [intOf]; omega
        · have hpb : (putE lq ⟨id, lo, fa, re, sz, dt⟩ == 0) = false := by simpa using hpe
          generalize putE lq ⟨id, lo, fa, re, sz, dt⟩ = pe at *
          go_wp2_with fail
          refine HPT.out.mono ?_
          rintro e w2 ⟨rp, lp, rfl, -, -, -, hb2⟩
          have HR2 := Hid.mk (HR.out.kept (bl2 HBX.out hb2))
          clear hb2 cl0 cl1 cl2 cl3 cl4 cl5
          go_wp2_with fail
          go_roundw
          case rel => exact ⟨k + 1, lq, lw, by omega, by go_num, HR2⟩
          case measure => simp [intOf]; omega
    · obtain rfl : k = n := by omega
      have HB := Hid.mk HR.out.bel
      have HCQ := Hid.mk (fun W (hW : Below wr.heap.size wr W) => check_qany aq lq.length cq lq W (HS.out.kept (bl2 HB.out hW)) (HFQ.out.kept hW))
      rw [HR.out.chk] at HCQ
      obtain ⟨N, hN⟩ : ∃ N, N = lw.length := ⟨_, rfl⟩
      rw [hlw] at HCQ HR hN16 ⊢
      rw [← hN] at HCQ HR hN16 ⊢
      have HNN := Hid.mk hN
      clear hlw hN
      go_wp2_with fail
      refine (HQ.out _ HB.out).mono ?_
      rintro e w2 ⟨rfl, hb2⟩
      have HW2 := Hid.mk hb2
      clear hb2
      go_wp2_with fail
      refine (HCQ.out _ HW2.out).mono ?_
      rintro e w3 ⟨rfl, hb3⟩
      have HR3 := Hid.mk (HR.out.kept (bl2 HW2.out hb3))
      have HB3 := Hid.mk HR3.out.bel
      clear hb3
      have hso := sortStable_row aw cw N w.heap.size lw w3 (cell_kept HB3.out HD.out) (block_lt_of_cell HD.out) HNN.out.symm (by omega) (by have := HR3.out.w; rw [← HNN.out] at this; exact this) HR3.out.ok
      have HSO := Hid.mk hso
      clear hso
      go_wp2_with fail
      refine HSO.out.mono ?_
      rintro e w4 ⟨rfl, ho4, ht4⟩
      have ho5 : w4.ownsRow w.heap.size 25 6 (.slice aw N cw) lw.length (frC (mrgV [] lw)) := by rw [← HNN.out]; exact ho4
      have hsd := HR3.out.sorted HF.out.all ho5 ht4
      rw [← HNN.out] at hsd
      obtain ⟨⟨aq', cq', hq1, hFq4⟩, ⟨aw', cw', hw1, hFw4⟩, hfs, hb4⟩ := hsd
      injection hq1 with e1 e2 e3
      injection hw1 with e4 e5 e6
      subst e1
      subst e3
      subst e4
      subst e6
      have hSl : (mrgV [] lw).length = N := hFw4.len
      have hSE : ∀ u ∈ mrgV [] lw, frE u.f = 0 := fun u hu => by
        rcases mrgV_mem _ _ _ hu with h | h
        · cases h
        · exact HR3.out.ok u h
      have hch := HR3.out.chk
      generalize mrgV [] lw = S at *
      rw [← hfs] at hch
      have HCH := Hid.mk hch
      have HSL := Hid.mk hSl
      have HFQ4 := Hid.mk hFq4
      have HFW4 := Hid.mk hFw4
      have HB4 := Hid.mk hb4
      have HFS := Hid.mk hfs
      clear ho4 ho5 ht4 hfs hb4 hch hSl hSE hFq4 hFw4
      go_wp2_with fail
      go_loopw [3, 52] (fun r i wr => ∃ (j : Nat) (ar : Option Addr) (cr : Nat) (lr : List FrV), j ≤ N ∧ i = .int .i64 j ∧ r = .slice ar (N - j) cr ∧ Hid (IsFrames wr ar (N - j) cr lr) ∧ Hid (lr.map (·.f) = (S.map (·.f)).drop j) ∧ Hid (IsFrames wr aw N cw S) ∧ Hid (Below w.heap.size w wr)) (fun _ i _ => N - (intOf i).toNat)
      case atStart => exact ⟨0, aq, cq, lq, Nat.zero_le _, rfl, rfl, HFQ4, Hid.mk HFS.out.symm, HFW4, HB4⟩
      case round =>
        obtain ⟨j, ar, cr, lr, hj, rfl, rfl, HFr, HLr, HFw, HBj⟩ := hrel
        by_cases hjl : j < N
        · have hjl' : (j : Int) < (N : Int) := by omega
          have hjS : j < S.length := by rw [HSL.out]; exact hjl
          cases aw with
          | none => exact absurd (HFw.out.none rfl) (by omega)
          | some y =>
            have cc := fun (i : Nat) (hi : i < 6) => HFw.out.cell y rfl j hjS i hi
            have hby := HFw.out.bytes j hjS
            have hdr : (S.map (·.f)).drop j = S[j].f :: (S.map (·.f)).drop (j + 1) := by
              rw [List.drop_eq_getElem_cons (by rw [List.length_map]; exact hjS), List.getElem_map]
            generalize S[j] = v at *
            obtain ⟨⟨id, lo, fa, re, sz, dt⟩, va, vl, vc⟩ := v
            simp only at hby hdr
            have cl0 := cc 0 (by omega)
            have cl1 := cc 1 (by omega)
            have cl2 := cc 2 (by omega)
            have cl3 := cc 3 (by omega)
            have cl4 := cc 4 (by omega)
            have cl5 := cc 5 (by omega)
            rw [add_nextQ] at cl1 cl2 cl3 cl4 cl5
            rw [Nat.add_zero] at cl0
            simp only [FrV.cells, List.getElem_cons_zero, List.getElem_cons_succ, Nat.reduceAdd] at cl0 cl1 cl2 cl3 cl4 cl5
            have hbx := below_box wr id lo fa re sz va vl vc
            have htk := take_ok ar (N - j) cr lr _ (HS.out.kept (bl2 HBj.out hbx)) (HFr.out.kept hbx) (by rw [HLr.out]; exact chk_drop HCH.out j) (by omega)
            have HTK := Hid.mk htk
            have HBX := Hid.mk hbx
            have HK0 := Hid.mk (FrAt.box wr id lo fa re sz va vl vc)
            have HBY := Hid.mk (isBytes_below hby hbx)
            have HDR := Hid.mk hdr
            unfold frameC at HTK HBX HK0 HBY
            clear cc hby hdr hbx htk
            obtain ⟨M, hM⟩ : ∃ M, M = N - j := ⟨_, rfl⟩
            rw [← hM] at HTK ⊢
            have HMM := Hid.mk hM
            clear hM
            go_wp2_with fail
            refine HTK.out.mono ?_
            rintro e w5 ⟨u, xt, ct, lt, rfl, hft, hYt, hFt, hb5⟩
            obtain ⟨f', ta, tn, tc⟩ := u
            have hfe : f' = ⟨id, lo, fa, re, sz, dt⟩ ∧ lt.map (·.f) = (S.map (·.f)).drop (j + 1) := by
              have h1 := hft.trans (HLr.out.trans HDR.out)
              injection h1 with h2 h3
              exact ⟨h2, h3⟩
            obtain ⟨rfl, hlt5⟩ := hfe
            simp only at hYt
            have hbz := below_box w5 id lo fa re sz ta tn tc
            have hb5' := bl2 hb5 hbz
            have HB6 := Hid.mk (bl2 (bl2 HBj.out HBX.out) hb5')
            have HFT := Hid.mk (hFt.kept hbz)
            have HFW6 := Hid.mk (HFw.out.kept (bl2 HBX.out hb5'))
            have HLT := Hid.mk hlt5
            obtain ⟨k0, k1, k2, k3, k4, k5⟩ := HK0.out.kept hb5'
            have hsm := same_any ⟨id, lo, fa, re, sz, dt⟩ ⟨id, lo, fa, re, sz, dt⟩ ta va tn tc vl vc _ (isBytes_below hYt hbz) (isBytes_below HBY.out hb5')
            rw [decide_eq_true rfl] at hsm
            have HSM := Hid.mk hsm
            unfold frameC at HB6 HFT HFW6 HSM k0 k1 k2 k3 k4 k5
            unfold frameV at HSM
            simp only at HSM
            clear hft hYt hFt hb5 hb5' hbz hlt5 hsm cl0 cl1 cl2 cl3 cl4 cl5
            simp only [FrV.cells]
            go_wp2_with fail
            refine HSM.out.mono ?_
            rintro e w7 ⟨rfl, hb7⟩
            have HB7 := Hid.mk (bl2 HB6.out hb7)
            have HFT7 := Hid.mk (HFT.out.kept hb7)
            have HFW7 := Hid.mk (HFW6.out.kept hb7)
            clear hb7 k0 k1 k2 k3 k4 k5
            have hMj : M - 1 = N - (j + 1) := by have := HMM.out; omega
            rw [hMj] at HFT7 ⊢
            clear hMj
            go_wp2_with fail
            go_roundw
            case rel => exact ⟨j + 1, some xt, ct, lt, by omega, by go_num, rfl, HFT7, HLT, HFW7, HB7⟩
            case measure => simp [intOf]; omega
        · obtain rfl : j = N := by omega
          rw [Nat.sub_self]
          go_wp2_with fail
          go_ret
          exact ⟨rfl, HBj.out⟩
end Bw
end Go.Proofs.YthdffdobkampaaaDoor

/- The table of the numbers of bytes off the row's own condition. -/
namespace Go.Proofs.YthdffdobkampaaaDoor
open Go.ChangeShapes Go.WideShapes Go.ChangeAt Go.RowKit
namespace Bw
theorem fsz_eq : Rows.laid_omnibus_frame_sizes (H := Unit) = Lib.tabData .i64 sizesI := by kernel_rfl
theorem fsz_t : Tryd.prog.underlying 97 = some (.array 16 3) := by kernel_rfl
theorem fsz_c : Tryd.prog.cellsOf 97 = 16 := by kernel_rfl
theorem fsz_c1 : Tryd.prog.cellsOf 3 = 1 := by kernel_rfl
theorem fsz_g : Tryd.prog.globalNamed "omnibus/frame.sizes" = some 1 := by kernel_rfl
theorem fsz_y : (Tryd.prog.globals[1]?).map (·.type) = some 97 := by kernel_rfl
theorem sizes_of {W : World} {laid : List (String × DataW Unit)} (hL : laidMet Tryd.prog laid W)
    (h1 : ("omnibus/frame.sizes", Rows.laid_omnibus_frame_sizes) ∈ laid) : SizesAt W := by
  obtain ⟨g, t, cs, fuel, p, hg, hty, hvar, hd⟩ := Lib.laidMet.reads hL h1
  obtain rfl := Option.some.inj (fsz_g.symm.trans hg)
  obtain rfl := Option.some.inj (fsz_y.symm.trans hty)
  rw [fsz_eq] at hd
  have hcs := Lib.cells_of_tab fsz_t Tryd.underlying3 fsz_c1 fsz_c hd
  intro i hi
  have := World.var?_cell hg hvar i
  rw [this, ← Array.getElem?_toList, hcs]
  rw [List.getElem?_map, List.getElem?_eq_getElem hi]
  simp [List.getD, hi]
end Bw
end Go.Proofs.YthdffdobkampaaaDoor

/- The one cell of the table of math/bits that is read, off the row's own condition. -/
namespace Go.Proofs.YthdffdobkampaaaDoor
open Go.ChangeShapes Go.WideShapes Go.ChangeAt Go.RowKit
namespace Bw
def bruijnZ : List Int := [0, 1, 56, 2, 57, 49, 28, 3, 61, 58, 42, 50, 38, 29, 17, 4, 62, 47, 59, 36, 45, 43, 51, 22, 53, 39, 33, 30, 24, 18, 12, 5, 63, 55, 48, 27, 60, 41, 37, 16, 46, 35, 44, 21, 52, 32, 23, 11, 54, 26, 40, 15, 34, 20, 31, 10, 25, 14, 19, 9, 13, 8, 7, 6]
theorem bruijn_eq : Rows.laid_math_bits_deBruijn64tab (H := Unit) = Lib.tabData .u8 bruijnZ := by kernel_rfl
theorem bruijn_t : Tryd.prog.underlying 122 = some (.array 64 5) := by kernel_rfl
theorem bruijn_c : Tryd.prog.cellsOf 122 = 64 := by kernel_rfl
theorem bruijn_c1 : Tryd.prog.cellsOf 5 = 1 := by kernel_rfl
theorem bruijn_g : Tryd.prog.globalNamed "math/bits.deBruijn64tab" = some 4 := by kernel_rfl
theorem bruijn_y : (Tryd.prog.globals[4]?).map (·.type) = some 122 := by kernel_rfl
theorem bruijn_of {W : World} {laid : List (String × DataW Unit)} (hL : laidMet Tryd.prog laid W)
    (h1 : ("math/bits.deBruijn64tab", Rows.laid_math_bits_deBruijn64tab) ∈ laid) : W.cell? ⟨4, 1, none⟩ = some (.int .u8 1) := by
  obtain ⟨g, t, cs, fuel, p, hg, hty, hvar, hd⟩ := Lib.laidMet.reads hL h1
  obtain rfl := Option.some.inj (bruijn_g.symm.trans hg)
  obtain rfl := Option.some.inj (bruijn_y.symm.trans hty)
  rw [bruijn_eq] at hd
  have hcs := Lib.cells_of_tab bruijn_t Tryd.underlying5 bruijn_c1 bruijn_c hd
  have := World.var?_cell hg hvar 1
  rw [this, ← Array.getElem?_toList, hcs]
  rfl
end Bw
end Go.Proofs.YthdffdobkampaaaDoor

/- What QueueRow answers: true. -/
namespace Go.Proofs.YthdffdobkampaaaDoor
open Go.ChangeShapes Go.WideShapes Go.ChangeAt Go.RowKit
namespace queueRow
open Bw Bm
theorem walk (a : Option Addr) (n cap : Nat) (l : List FrV) (w : World) (hF : IsFrames w a n cap l) (hL : laidMet Tryd.prog Rows.queueRowRow.laid w) :
    Calls Tryd.prog 5 #[.slice a n cap] w fun e w' => e = .returned (.bool true) ∧ Below w.heap.size w w' :=
  row_walk a n cap l w (sizes_of hL (by simp [Rows.queueRowRow])) (bruijn_of hL (by simp [Rows.queueRowRow])) hF
end queueRow
end Go.Proofs.YthdffdobkampaaaDoor
