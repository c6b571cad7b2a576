/- Joined out of our texts: QLineOf, QOps, QEntry, QPut, QTake. -/
import Derived.Test.YthdffdobkampaaaDoorLawQueuePutPAB
import Derived.Test.YthdffdobkampaaaDoorLawQueuePutPAA
import Derived.Laws.ResultCell
import Derived.Deep.RegionHeld3
/- What queue.lineOf answers: a queue as a line, or what is wrong with it. -/
namespace Go.Proofs.YthdffdobkampaaaDoor
open Go.ChangeShapes Go.WideShapes Go.ChangeAt Go.RowKit
namespace Bw
open Bm Cm
/-- the first k of a queue in a line -/
def padA (l : List FrV) (k : Nat) : List Ent := (l.take k).map entOf ++ List.replicate (32 - k) zE
theorem padA_len (l : List FrV) (k : Nat) (h : k ≤ l.length) (h2 : k ≤ 32) : (padA l k).length = 32 := by
  unfold padA
  rw [List.length_append, List.length_map, List.length_take, List.length_replicate]; omega
theorem padA_set (l : List FrV) (k : Nat) (h : k < l.length) (h2 : k < 32) : (padA l k).set k (entOf l[k]) = padA l (k + 1) := by
  unfold padA
  have hl : ((l.take k).map entOf).length = k := by rw [List.length_map, List.length_take]; omega
  rw [List.set_append_right _ _ (by omega), hl, Nat.sub_self, List.take_succ_eq_append_getElem h, List.map_append]
  obtain ⟨q, hq⟩ : ∃ q, 32 - k = q + 1 := ⟨31 - k, by omega⟩
  have hq2 : 32 - (k + 1) = q := by omega
  rw [hq, hq2, List.replicate_succ, List.set_cons_zero, List.append_assoc]
  rfl
theorem padA_name (l : List FrV) (k j : Nat) (hj : j < k) (h : k ≤ l.length) (h2 : k ≤ 32) : (padA l k)[j]'(by rw [padA_len l k h h2]; omega) = entOf (l[j]'(by omega)) := by
  unfold padA
  rw [List.getElem_append_left (by rw [List.length_map, List.length_take]; omega), List.getElem_map, List.getElem_take]
theorem padA_zero (l : List FrV) : padA l 0 = List.replicate 32 zE := rfl
theorem line_results {fn : Func} {p u : Tmp} (hr : fn.results = #[.cell p 55, .tmp u]) (tmps : Array Value) (w : World) (b : Nat) (A : List Ent) (n : Int) (y : Value) (hp : tmps.getD p undef = .pointer (some ⟨b, 0, none⟩)) (hy : tmps.getD u undef = y) (h : LnAt w b A n) :
    (results fn tmps).run Tryd.prog w = .ok (.tuple #[.agg (lnC A n).toArray, y]) w := by
  have hl := run_loadVar_row (P := Tryd.prog) w b 55 55 _ (0, 0) _ h.row Tryd.underlying55 rfl (by rw [line_info, lnC_arr _ _ h.len])
  have hp' : tmps[p]?.getD undef = .pointer (some ⟨b, 0, none⟩) := by simpa using hp
  have hy' : tmps[u]?.getD undef = y := by simpa using hy
  simp [results, hr, hp', hy', asAddr, hl]
theorem wpl_store_zero {ops : Array Oper} {rest : List Oper} {dst : Option Tmp} {ty : TypeId} {pos : String} {aft : Array Edge} {a : Act} {w : World} {Q : Exit → Act → World → Prop} (x y : Operand) (b : Nat) (A : List Ent) (n : Int) (hx : a.eval x = .pointer (some ⟨b, 0, none⟩)) (hy : a.eval y = .agg Tryd.zeroCells55) (hL : LnAt w b A n)
    (h : ∀ w', LnAt w' b (List.replicate 32 zE) 0 → Tch [b] w w' → wpList Tryd.prog ops Q rest (a.put dst undef) w') :
    wpList Tryd.prog ops Q (Oper.mk dst (.store 55 x y) ty pos aft none :: rest) a w :=
  wpl_store_line x y b A _ n 0 hx (by rw [hy, zero_line]) hL (by simp) h
def lineL (l : List FrV) : List Value := if chkQ (l.map (·.f)) = 0 then lnC (padA l l.length) l.length else lnC (List.replicate 32 zE) 0
theorem add_nextQ (x : Addr) (m j : Nat) : x.add (m + (j + 1)) = ⟨(x.add m).block, (x.add m).off + (j + 1), none⟩ := by
  unfold Addr.add
  by_cases h : m = 0
  · subst h; simp
  · simp [h]; omega
theorem map_f (l : List FrV) (k : Nat) (h : k < l.length) : (l.map (·.f)).getD k ⟨0, false, false, false, 0, []⟩ = l[k].f := by simp [List.getD, h]
set_option maxHeartbeats 4000000 in
set_option maxRecDepth 100000 in
theorem lineOf_many (a : Option Addr) (n cap : Nat) (l : List FrV) (w : World) (hF : IsFrames w a n cap l) (hm : 16 < n) :
    Calls Tryd.prog 31 #[.slice a n cap] w fun e w' => e = .returned (.tuple #[.agg (lineL l).toArray, .int .i64 (chkQ (l.map (·.f)))]) ∧ Below w.heap.size w w' := by
  have hc : chkQ (l.map (·.f)) = 2 := by unfold chkQ; rw [if_pos (by rw [List.length_map, hF.len]; exact hm)]
  have hll : lineL l = lnC (List.replicate 32 zE) 0 := by unfold lineL; rw [if_neg (by rw [hc]; decide)]
  rw [hc, hll]
  have hmx : n ≤ maxLen := Nat.le_trans hF.le hF.max
  have hL0 := LnAt.new w (List.replicate 32 zE) 0 (by simp)
  have hB0 : Below w.heap.size w (w.alloc (lnO (List.replicate 32 zE) 0)) := (Below.refl _ _).alloc (Nat.le_refl _) _
  unfold lnO at hL0 hB0
  rw [← zero_line] at hL0 hB0
  have K0 := Hid.mk hL0
  have KB := Hid.mk hB0
  have hm' : (16 : Int) < (n : Int) := by omega
  clear hL0 hB0 hF hc hll
  go_enter Tryd.func31, Tryd.ntmps31
  go_wp2_with (first | ((with_reducible_and_instances refine wpl_store_zero (.tmp 2) (.tmp 12) w.heap.size (List.replicate 32 zE) 0 ?_ ?_ K0.out ?_); rfl; rfl; intro w5 hL5 hT5))
  refine bodyPost_ret (line_results rfl _ _ w.heap.size _ _ _ rfl rfl hL5) rfl ?_
  exact ⟨rfl, Tch.below KB.out hT5 (by simp) (Nat.le_refl _)⟩
set_option maxHeartbeats 8000000 in
set_option maxRecDepth 100000 in
theorem lineOf_few (a : Option Addr) (n cap : Nat) (l : List FrV) (w : World) (hS : SizesAt w) (hF : IsFrames w a n cap l) (hm : n ≤ 16) :
    Calls Tryd.prog 31 #[.slice a n cap] w fun e w' => e = .returned (.tuple #[.agg (lineL l).toArray, .int .i64 (chkQ (l.map (·.f)))]) ∧ Below w.heap.size w w' := by
  have hc : chkQ (l.map (·.f)) = chkK (l.map (·.f)) n := by unfold chkQ; rw [if_neg (by rw [List.length_map, hF.len]; omega), List.length_map, hF.len]
  have hmx : n ≤ maxLen := Nat.le_trans hF.le hF.max
  have hL0 := LnAt.new w (List.replicate 32 zE) 0 (by simp)
  have hB0 : Below w.heap.size w (w.alloc (lnO (List.replicate 32 zE) 0)) := (Below.refl _ _).alloc (Nat.le_refl _) _
  have hL1 := LnAt.new (w.alloc (lnO (List.replicate 32 zE) 0)) (List.replicate 32 zE) 0 (by simp)
  have hB1 : Below (w.alloc (lnO (List.replicate 32 zE) 0)).heap.size (w.alloc (lnO (List.replicate 32 zE) 0)) ((w.alloc (lnO (List.replicate 32 zE) 0)).alloc (lnO (List.replicate 32 zE) 0)) := (Below.refl _ _).alloc (Nat.le_refl _) _
  have hs1 : (w.alloc (lnO (List.replicate 32 zE) 0)).heap.size = w.heap.size + 1 := by simp
  have k0 := hL0.kept hB1
  have kb := bl2 hB0 hB1
  rw [hs1] at hL1
  unfold lnO at k0 hL1 kb
  rw [← zero_line] at k0 hL1 kb
  have K0 := Hid.mk k0
  have K1 := Hid.mk hL1
  have KB := Hid.mk kb
  have hm' : ¬ (16 : Int) < (n : Int) := by omega
  have HF := Hid.mk hF
  have HS := Hid.mk hS
  have HC := Hid.mk hc
  clear hL0 hB0 hF hc hS hL1 hB1 hs1 k0 kb
  go_enter Tryd.func31, Tryd.ntmps31
  go_wp2_with fail
  go_loopw [15] (fun i wr => ∃ (k : Nat), k ≤ n ∧ i = .int .i64 k ∧ Hid (chkK (l.map (·.f)) k = 0) ∧ Hid (LnAt wr w.heap.size (List.replicate 32 zE) 0) ∧ Hid (LnAt wr (w.heap.size + 1) (padA l k) 0) ∧ Hid (Below w.heap.size w wr)) (fun i _ => n - (intOf i).toNat)
  case atStart => exact ⟨0, Nat.zero_le _, rfl, Hid.mk rfl, K0, K1, KB⟩
  case round =>
    obtain ⟨k, hk, rfl, HZ, HL0, HL1, HB⟩ := hrel
    by_cases hlt : k < n
    · have hlt' : (k : Int) < (n : Int) := by omega
      have hkl : k < l.length := by rw [HF.out.len]; exact hlt
      cases a with
      | none => exact absurd (HF.out.none rfl) (by omega)
      | some x =>
        have cc := fun (j : Nat) (hj : j < 6) => cell_kept HB.out (HF.out.cell x rfl k hkl j hj)
        have hby := isBytes_below (HF.out.bytes k hkl) (show Below w.heap.size w wr from HB.out)
        have hstep := chkK_next HZ.out
        have hst : stepQ (l.map (·.f)) k = if frE l[k].f ≠ 0 then frE l[k].f else if 0 < k ∧ Op.bytesLess (nameL l[k].f) (nameL ((l.map (·.f)).getD (k - 1) ⟨0, false, false, false, 0, []⟩)) = true then 4 else 0 := by
          unfold stepQ; rw [map_f l k hkl]
        have hset := padA_set l k hkl (by omega)
        have hkA : k < (padA l k).length := by rw [padA_len l k (by omega) (by omega)]; omega
        have hbad : chkK (l.map (·.f)) (k + 1) ≠ 0 → chkQ (l.map (·.f)) = chkK (l.map (·.f)) (k + 1) ∧ lineL l = lnC (List.replicate 32 zE) 0 := by
          intro h
          have e1 : chkQ (l.map (·.f)) = chkK (l.map (·.f)) (k + 1) := by rw [HC.out]; exact chkK_stop h n (by omega)
          exact ⟨e1, by unfold lineL; rw [if_neg (by rw [e1]; exact h)]⟩
        rw [hstep] at hbad
        have HBAD := Hid.mk hbad
        have HST := Hid.mk hst
        have HSTEP := Hid.mk hstep
        have HSET := Hid.mk hset
        have hprev : 0 < k → wr.cell? ⟨w.heap.size + 1, (k - 1) * 7, none⟩ = some (.string ⟨(nameL ((l.map (·.f)).getD (k - 1) ⟨0, false, false, false, 0, []⟩)).toArray⟩) := by
          intro h0
          refine (show wr.cell? ⟨w.heap.size + 1, (k - 1) * 7 + 0, none⟩ = _ from ?_)
          rw [HL1.out.cell (k - 1) 0 (by omega) (by omega), padA_name l k (k - 1) (by omega) (by omega) (by omega), map_f l (k - 1) (by omega)]
          rfl
        have HPREV := Hid.mk hprev
        clear hbad hst hstep hset hprev
        generalize hfk : l[k] = v at *
        obtain ⟨⟨id, lo, fa, re, sz, dt⟩, va, vl, vc⟩ := v
        have c0 := cc 0 (by omega)
        have c1 := cc 1 (by omega)
        have c2 := cc 2 (by omega)
        have c3 := cc 3 (by omega)
        have c4 := cc 4 (by omega)
        have c5 := cc 5 (by omega)
        rw [add_nextQ] at c1 c2 c3 c4 c5
        rw [Nat.add_zero] at c0
        simp only [FrV.cells, List.getElem_cons_zero, List.getElem_cons_succ, Nat.reduceAdd] at c0 c1 c2 c3 c4 c5
        simp only at hby
        have hbx := below_box wr id lo fa re sz va vl vc
        have hB2 := bl2 HB.out hbx
        have hnm := frName_any ⟨id, lo, fa, re, sz, dt⟩ va vl vc _ (HS.out.kept hB2) (Nat.le_trans hby.2.1 hby.2.2.1) hby.1
        have HK := Hid.mk (FrAt.box wr id lo fa re sz va vl vc)
        have HBX := Hid.mk hbx
        have HB2 := Hid.mk hB2
        unfold nameA at hnm
        simp only at hnm
        unfold frameV at hnm
        have HNM := Hid.mk hnm
        unfold frameC at HNM HK HBX HB2
        clear cc hby hbx hB2 hnm
        by_cases hE : frE ⟨id, lo, fa, re, sz, dt⟩ = 0
        · rw [if_pos hE] at HNM
          rw [if_neg (show ¬ frE ⟨id, lo, fa, re, sz, dt⟩ ≠ 0 from fun h => h hE)] at HST
          obtain ⟨nm, hnmv⟩ : ∃ nm, nm = nameL ⟨id, lo, fa, re, sz, dt⟩ := ⟨_, rfl⟩
          rw [← hnmv] at HNM HST
          have HNV := Hid.mk hnmv
          clear hnmv
          go_wp2_with fail
          refine HNM.out.mono ?_
          rintro e w1 ⟨rfl, hb1⟩
          have hb01 := bl2 HBX.out hb1
          obtain ⟨k0, k1, k2, k3, k4, k5⟩ := HK.out.kept hb1
          have HB3 := Hid.mk (bl2 HB2.out hb1)
          have HL0b := Hid.mk (HL0.out.kept hb01)
          have HL1b := Hid.mk (HL1.out.kept hb01)
          have HPR := Hid.mk (fun h0 => cell_kept hb01 (HPREV.out h0))
          clear hb1 hb01 c0 c1 c2 c3 c4 c5
          by_cases h0 : 0 < k
          · have n2 := HPR.out h0
            have hk1 : ((k : Int) - 1) = ((k - 1 : Nat) : Int) := by omega
            have hd0 : decide ((0 : Int) < (k : Int)) = true := by simp; omega
            generalize nameL ((l.map (·.f)).getD (k - 1) ⟨0, false, false, false, 0, []⟩) = pn at *
            by_cases hl : Op.bytesLess nm pn = true
            · rw [if_pos ⟨h0, hl⟩] at HST
              have hh := HBAD.out (by rw [HST.out]; decide)
              have HH1 := Hid.mk (hh.1.trans HST.out)
              have HH2 := Hid.mk hh.2
              clear hh
              go_wp2_with (first | ((with_reducible_and_instances refine wpl_store_zero (.tmp 2) (.tmp 41) w.heap.size (List.replicate 32 zE) 0 ?_ ?_ HL0b.out ?_); rfl; rfl; intro w5 hL5 hT5))
              refine bodyPost_ret (line_results rfl _ _ w.heap.size _ _ _ rfl rfl hL5) rfl ?_
              exact ⟨by rw [HH1.out, HH2.out]; rfl, Tch.below HB3.out hT5 (by simp) (Nat.le_refl _)⟩
            · rw [if_neg (fun h => hl h.2)] at HST
              go_wp2_with (first | ((with_reducible_and_instances refine wpl_store_ent (.tmp 47) (.tmp 45) (w.heap.size + 1) (k * 7) k (padA l k) 0 ⟨nm, ⟨⟨id, lo, fa, re, sz, dt⟩, va, vl, vc⟩⟩ ?_ ?_ HL1b.out rfl hkA ?_); rfl; rfl; intro w5 hL5 hT5))
              have hE5 : (⟨nm, ⟨⟨id, lo, fa, re, sz, dt⟩, va, vl, vc⟩⟩ : Ent) = entOf ⟨⟨id, lo, fa, re, sz, dt⟩, va, vl, vc⟩ := by rw [HNV.out]; rfl
              rw [hE5, HSET.out] at hL5
              go_roundw
              case rel => exact ⟨k + 1, by omega, by go_num, Hid.mk (HSTEP.out.trans HST.out), Hid.mk (HL0b.out.tch hT5 (by simp)), Hid.mk hL5, Hid.mk (Tch.below HB3.out hT5 (by simp) (Nat.le_refl _))⟩
              case measure => simp [intOf]; omega
          · obtain rfl : k = 0 := by omega
            rw [if_neg (fun h => absurd h.1 (Nat.lt_irrefl _))] at HST
            go_wp2_with (first | ((with_reducible_and_instances refine wpl_store_ent (.tmp 47) (.tmp 45) (w.heap.size + 1) (0 * 7) 0 (padA l 0) 0 ⟨nm, ⟨⟨id, lo, fa, re, sz, dt⟩, va, vl, vc⟩⟩ ?_ ?_ HL1b.out rfl hkA ?_); rfl; rfl; intro w5 hL5 hT5))
            have hE5 : (⟨nm, ⟨⟨id, lo, fa, re, sz, dt⟩, va, vl, vc⟩⟩ : Ent) = entOf ⟨⟨id, lo, fa, re, sz, dt⟩, va, vl, vc⟩ := by rw [HNV.out]; rfl
            rw [hE5, HSET.out] at hL5
            go_roundw
            case rel => exact ⟨0 + 1, by omega, by go_num, Hid.mk (HSTEP.out.trans HST.out), Hid.mk (HL0b.out.tch hT5 (by simp)), Hid.mk hL5, Hid.mk (Tch.below HB3.out hT5 (by simp) (Nat.le_refl _))⟩
            case measure => simp [intOf]; omega
        · rw [if_neg hE] at HNM
          rw [if_pos hE] at HST
          have hne : (frE ⟨id, lo, fa, re, sz, dt⟩ != 0) = true := by simpa using hE
          have hh := HBAD.out (by rw [HST.out]; exact hE)
          have HH1 := Hid.mk (hh.1.trans HST.out)
          have HH2 := Hid.mk hh.2
          clear hh
          generalize frE ⟨id, lo, fa, re, sz, dt⟩ = ce at *
          go_wp2_with fail
          refine HNM.out.mono ?_
          rintro e w1 ⟨rfl, hb1⟩
          have hb01 := bl2 HBX.out hb1
          have HB3 := Hid.mk (bl2 HB2.out hb1)
          have HL0b := Hid.mk (HL0.out.kept hb01)
          clear hb1 hb01 c0 c1 c2 c3 c4 c5
          go_wp2_with (first | ((with_reducible_and_instances refine wpl_store_zero (.tmp 2) (.tmp 27) w.heap.size (List.replicate 32 zE) 0 ?_ ?_ HL0b.out ?_); rfl; rfl; intro w5 hL5 hT5))
          refine bodyPost_ret (line_results rfl _ _ w.heap.size _ _ _ rfl rfl hL5) rfl ?_
          exact ⟨by rw [HH1.out, HH2.out]; rfl, Tch.below HB3.out hT5 (by simp) (Nat.le_refl _)⟩
    · obtain rfl : k = n := by omega
      have c224 := HL1.out.size
      have z224 := HL1.out.frozen 224
      have HL2 := Hid.mk (HL1.out.setSize (k : Int))
      have HT2 := Hid.mk ((Tch.refl [w.heap.size + 1] wr).setK (g := w.heap.size + 1) (by simp) 224 (.int .i64 (k : Int)))
      have hfin : lineL l = lnC (padA l k) k := by
        unfold lineL
        rw [if_pos (by rw [HC.out]; exact HZ.out), HF.out.len]
      have HFIN := Hid.mk hfin
      have HQ := Hid.mk (HC.out.trans HZ.out)
      clear hfin
      go_wp2_with (first | ((with_reducible_and_instances refine wpl_load_line (.tmp 4) (w.heap.size + 1) _ _ ?_ HL2.out ?_); rfl) | ((with_reducible_and_instances refine wpl_store_line (.tmp 2) (.tmp 52) w.heap.size (List.replicate 32 zE) (padA l k) 0 (k : Int) ?_ ?_ (HL0.out.tch HT2.out (by simp)) HL2.out.len ?_); rfl; rfl; intro w7 hL7 hT7))
      refine bodyPost_ret (line_results rfl _ _ w.heap.size _ _ _ rfl rfl hL7) rfl ?_
      exact ⟨by rw [HQ.out, HFIN.out]; rfl, Tch.below (Tch.below HB.out HT2.out (by simp) (Nat.le_refl _)) hT7 (by simp) (Nat.le_refl _)⟩
theorem lineOf_any (a : Option Addr) (n cap : Nat) (l : List FrV) (w : World) (hS : SizesAt w) (hF : IsFrames w a n cap l) :
    Calls Tryd.prog 31 #[.slice a n cap] w fun e w' => e = .returned (.tuple #[.agg (lineL l).toArray, .int .i64 (chkQ (l.map (·.f)))]) ∧ Below w.heap.size w w' := by
  by_cases hm : n ≤ 16
  · exact lineOf_few a n cap l w hS hF hm
  · exact lineOf_many a n cap l w hF (by omega)
end Bw
end Go.Proofs.YthdffdobkampaaaDoor

/- What queue.Check and queue.put answer. -/
namespace Go.Proofs.YthdffdobkampaaaDoor
open Go.ChangeShapes Go.WideShapes Go.ChangeAt Go.RowKit
namespace Bw
open Bm Cm
theorem LnAt.zero (W : World) : LnAt (W.alloc (Obj.cells Tryd.zeroCells55 55)) W.heap.size (List.replicate 32 zE) 0 := by
  have := LnAt.new W (List.replicate 32 zE) 0 (by simp)
  unfold lnO at this
  rw [← zero_line] at this
  exact this
theorem below_zero (W : World) : Below W.heap.size W (W.alloc (Obj.cells Tryd.zeroCells55 55)) := (Below.refl _ _).alloc (Nat.le_refl _) _
/-- whatever is told of it, it is a line -/
theorem lineL_shape (l : List FrV) : ∃ B m, lineL l = lnC B m ∧ B.length = 32 := by
  unfold lineL
  split
  · rename_i h
    obtain ⟨h1, _⟩ := chk_ok h
    rw [List.length_map] at h1
    exact ⟨_, _, rfl, padA_len l l.length (Nat.le_refl _) (by omega)⟩
  · exact ⟨_, _, rfl, by simp⟩
set_option maxHeartbeats 4000000 in
set_option maxRecDepth 100000 in
theorem check_qany (a : Option Addr) (n cap : Nat) (l : List FrV) (w : World) (hS : SizesAt w) (hF : IsFrames w a n cap l) :
    Calls Tryd.prog 13 #[.slice a n cap] w fun e w' => e = .returned (.int .i64 (chkQ (l.map (·.f)))) ∧ Below w.heap.size w w' := by
  have h1 := lineOf_any a n cap l w hS hF
  obtain ⟨B, m, hB, hlen⟩ := lineL_shape l
  rw [hB] at h1
  have H1 := Hid.mk h1
  clear h1 hB hS hF
  go_enter Tryd.func13, Tryd.ntmps13
  go_wp2_with fail
  refine H1.out.mono ?_
  rintro e w1 ⟨rfl, hb1⟩
  go_wp2_with (first | ((with_reducible_and_instances refine wpl_store_line (.tmp 3) (.tmp 8) w1.heap.size (List.replicate 32 zE) B 0 m ?_ ?_ (LnAt.zero w1) hlen ?_); rfl; rfl; intro w5 hL5 hT5))
  go_ret
  exact ⟨rfl, bl2 hb1 (Tch.below (below_zero w1) hT5 (by simp) (Nat.le_refl _))⟩
/-- frames in order behind one another -/
def putV (l : List FrV) (v : FrV) : List FrV := insAt l (atF (l.map (·.f)) v.f) v
theorem putV_f (l : List FrV) (v : FrV) : (putV l v).map (·.f) = putF (l.map (·.f)) v.f := by unfold putV putF; rw [insAt_map]
theorem putV_len (l : List FrV) (v : FrV) : (putV l v).length = l.length + 1 := insAt_len _ _ _
theorem withA_put (l : List FrV) (z : List Ent) (v : FrV) : withA (l.map entOf ++ z) l.length (entOf v) = (putV l v).map entOf ++ z.drop 1 := by
  unfold withA putV
  have hl : (l.map entOf).length = l.length := List.length_map _
  have e1 : (l.map entOf ++ z).take l.length = l.map entOf := by rw [← hl, List.take_left]
  have e2 : (l.map entOf ++ z).drop (l.length + 1) = z.drop 1 := by rw [← List.drop_drop, ← hl, List.drop_left]
  rw [e1, e2, insAt_map]
  congr 2
  unfold atA atF
  rw [List.length_map, List.map_append, List.map_map, List.map_map]
  refine atE_congr _ _ _ _ (fun j hj => ?_)
  have hj1 : j < (l.map ((fun x => x.name) ∘ entOf)).length := by simpa using hj
  rw [List.getD_eq_getElem?_getD, List.getD_eq_getElem?_getD, List.getElem?_append_left hj1]
  rfl
theorem with_line (l : List FrV) (z : List Ent) (v : FrV) (w : World) (hlz : l.length + z.length = 32) (hz : 0 < z.length) :
    Calls Tryd.prog 38 #[.agg (lnC (l.map entOf ++ z) l.length).toArray, .agg (entOf v).cells.toArray] w fun e w' => e = .returned (.agg (lnC ((putV l v).map entOf ++ z.drop 1) ((putV l v).length : Int)).toArray) ∧ Below w.heap.size w w' := by
  have h := with_any (l.map entOf ++ z) l.length (entOf v) w (by rw [List.length_append, List.length_map]; exact hlz) (by omega)
  rw [withA_put] at h
  rw [putV_len]
  exact h
theorem OwnFrs.mono {w : World} {b b' : Nat} {r : Value} {l : List FrV} (h : OwnFrs w b r l) (hb : b' ≤ b) : OwnFrs w b' r l := by
  refine ⟨?_, h.bytes, h.apart, fun v hv x hx => Nat.le_trans hb (h.fresh v hv x hx)⟩
  obtain ⟨h1, h2⟩ := h.row
  refine ⟨h1, ?_⟩
  rcases h2 with h2 | ⟨g, cap, cur, hv, hg, hh⟩
  · exact .inl h2
  · exact .inr ⟨g, cap, cur, hv, Nat.le_trans hb hg, hh⟩
theorem framesOf_any (l : List FrV) (z : List Ent) (w : World) (hlz : l.length + z.length = 32) (hY : ∀ v ∈ l, IsBytes w v.a v.len v.cap v.f.dt) (hE : ∀ v ∈ l, frE v.f = 0) :
    Calls Tryd.prog 30 #[.agg (lnC (l.map entOf ++ z) l.length).toArray] w fun e w' => ∃ r l', e = .returned r ∧ l'.map (·.f) = l.map (·.f) ∧ OwnFrs w' w.heap.size r l' ∧ Below w.heap.size w w' := by
  have hA : (l.map entOf ++ z).length = 32 := by rw [List.length_append, List.length_map]; exact hlz
  have hi : ∀ i (h : i < (l.map entOf ++ z).length) (h2 : i < l.length), (l.map entOf ++ z)[i].v = l[i] := by
    intro i h h2
    rw [List.getElem_append_left (by simpa using h2), List.getElem_map]; rfl
  refine (framesOf_A (l.map entOf ++ z) l.length w hA (by omega) ?_ ?_).mono ?_
  · intro i h h2; rw [hi i h h2]; exact hY _ (List.getElem_mem h2)
  · intro i h h2; rw [hi i h h2]; exact (frE_ok (hE _ (List.getElem_mem h2))).2.2.2.2.2.2.1
  · rintro e w' ⟨r, l', rfl, _, hf, ho, hb⟩
    refine ⟨r, l', rfl, ?_, ho.mono (Nat.le_succ _), hb⟩
    have hl : (l.map entOf).length = l.length := List.length_map _
    rw [hf, ← hl, List.take_left, List.map_map]; rfl
set_option maxHeartbeats 4000000 in
set_option maxRecDepth 100000 in
theorem put_full (l : List FrV) (z : List Ent) (v : FrV) (w : World) (hlz : l.length + z.length = 32) (hl : l.length = 16) :
    Calls Tryd.prog 29 #[.agg (lnC (l.map entOf ++ z) l.length).toArray, .agg (entOf v).cells.toArray] w fun e w' => e = .returned (.tuple #[.slice none 0 0, .int .i64 11]) ∧ Below w.heap.size w w' := by
  have hL0 := LnAt.new w (l.map entOf ++ z) l.length (by rw [List.length_append, List.length_map]; exact hlz)
  have hB0 : Below w.heap.size w (w.alloc (lnO (l.map entOf ++ z) l.length)) := (Below.refl _ _).alloc (Nat.le_refl _) _
  have hB1 : Below (w.alloc (lnO (l.map entOf ++ z) l.length)).heap.size (w.alloc (lnO (l.map entOf ++ z) l.length)) ((w.alloc (lnO (l.map entOf ++ z) l.length)).alloc (.cells (entOf v).cells.toArray 52)) := (Below.refl _ _).alloc (Nat.le_refl _) _
  have k0 := hL0.kept hB1
  have kB := bl2 hB0 hB1
  unfold lnO at k0 kB
  have c224 := k0.size
  have KB := Hid.mk kB
  clear hL0 hB0 hB1 k0 kB
  generalize (lnC (l.map entOf ++ z) l.length).toArray = C at *
  rw [hl] at c224
  go_enter Tryd.func29, Tryd.ntmps29
  go_wp2_with fail
  go_ret2
  exact ⟨rfl, KB.out⟩
set_option maxHeartbeats 1000000 in
set_option maxRecDepth 100000 in
theorem put_room (l : List FrV) (z : List Ent) (v : FrV) (w : World) (hlz : l.length + z.length = 32) (hl : l.length < 16) (hY : ∀ u ∈ l, IsBytes w u.a u.len u.cap u.f.dt) (hE : ∀ u ∈ l, frE u.f = 0) (hYv : IsBytes w v.a v.len v.cap v.f.dt) (hEv : frE v.f = 0) :
    Calls Tryd.prog 29 #[.agg (lnC (l.map entOf ++ z) l.length).toArray, .agg (entOf v).cells.toArray] w fun e w' => ∃ r l', e = .returned (.tuple #[r, .int .i64 0]) ∧ l'.map (·.f) = putF (l.map (·.f)) v.f ∧ OwnFrs w' w.heap.size r l' ∧ Below w.heap.size w w' := by
  have hA : (l.map entOf ++ z).length = 32 := by rw [List.length_append, List.length_map]; exact hlz
  have hL0 := LnAt.new w (l.map entOf ++ z) l.length hA
  have hB0 : Below w.heap.size w (w.alloc (lnO (l.map entOf ++ z) l.length)) := (Below.refl _ _).alloc (Nat.le_refl _) _
  have hs0 : (w.alloc (lnO (l.map entOf ++ z) l.length)).heap.size = w.heap.size + 1 := by simp
  have hE1 := EnAt.new (w.alloc (lnO (l.map entOf ++ z) l.length)) (entOf v)
  have hB1 : Below (w.alloc (lnO (l.map entOf ++ z) l.length)).heap.size (w.alloc (lnO (l.map entOf ++ z) l.length)) ((w.alloc (lnO (l.map entOf ++ z) l.length)).alloc (.cells (entOf v).cells.toArray 52)) := (Below.refl _ _).alloc (Nat.le_refl _) _
  have k0 := hL0.kept hB1
  have kB := bl2 hB0 hB1
  rw [hs0] at hE1
  unfold lnO at k0 kB hE1
  have c224 := k0.size
  have K0 := Hid.mk k0
  have K1 := Hid.mk hE1
  have KB := Hid.mk kB
  have hw := fun W => with_line l z v W hlz (by omega)
  have hfs := fun W h1 h2 => framesOf_any (putV l v) (z.drop 1) W (by rw [putV_len, List.length_drop]; omega) h1 h2
  have hmem : ∀ u, u ∈ putV l v → u = v ∨ u ∈ l := fun u hu => (insAt_mem l _ v u).1 hu
  have HPF := Hid.mk (putV_f l v)
  have HW := Hid.mk hw
  have HFS := Hid.mk hfs
  have hne : ¬ ((l.length : Int) = 16) := by omega
  have hneb : ((l.length : Int) == 16) = false := by simpa using hne
  have HYP := Hid.mk (show ∀ W, Below w.heap.size w W → (∀ u ∈ putV l v, IsBytes W u.a u.len u.cap u.f.dt) from fun W hb u hu => by
    rcases hmem u hu with rfl | hu
    · exact isBytes_below hYv hb
    · exact isBytes_below (hY u hu) hb)
  have HEP := Hid.mk (show ∀ u ∈ putV l v, frE u.f = 0 from fun u hu => by
    rcases hmem u hu with rfl | hu
    · exact hEv
    · exact hE u hu)
  clear hL0 hB0 hB1 hs0 hE1 k0 kB hw hfs hmem hY hE hYv hEv
  generalize hCe : (lnC (l.map entOf ++ z) l.length).toArray = C at *
  obtain ⟨N, hN⟩ : ∃ N, N = l.length := ⟨_, rfl⟩
  rw [← hN] at c224 hneb hne
  have HCE := Hid.mk hCe
  clear hCe hN
  generalize (lnC ((putV l v).map entOf ++ z.drop 1) ((putV l v).length : Int)).toArray = D at *
  go_enter Tryd.func29, Tryd.ntmps29
  go_wp2_with (first | ((with_reducible_and_instances refine wpl_load_line (.tmp 2) w.heap.size _ _ ?_ K0.out ?_); rfl; rw [HCE.out]) | ((with_reducible_and_instances refine wpl_load_own (.tmp 3) (w.heap.size + 1) (entOf v) ?_ K1.out ?_); rfl))
  refine (HW.out _).mono ?_
  rintro e w1 ⟨rfl, hb1⟩
  have hb01 := bl2 KB.out hb1
  go_wp2_with fail
  refine (HFS.out _ (HYP.out _ hb01) HEP.out).mono ?_
  rintro e w2 ⟨r, l', rfl, hf, ho, hb2⟩
  go_wp2_with fail
  go_ret2
  exact ⟨r, l', rfl, by rw [hf, HPF.out], ho.mono (by have := hb01.size; omega), bl2 hb01 hb2⟩
end Bw
end Go.Proofs.YthdffdobkampaaaDoor

/- What queue.lineAndEntry answers. -/
namespace Go.Proofs.YthdffdobkampaaaDoor
open Go.ChangeShapes Go.WideShapes Go.ChangeAt Go.RowKit
namespace Bw
open Bm Cm
/-- an entry of its own is stored -/
theorem wp_store_own {o : Oper} {a : Act} {w : World} {K : Act → World → Prop} {Q : Exit → Act → World → Prop} (x y : Operand) (ho : o.op = .store 52 x y) (b : Nat) (e e' : Ent) (hx : a.eval x = .pointer (some ⟨b, 0, none⟩)) (hy : a.eval y = .agg e'.cells.toArray) (hL : EnAt w b e)
    (h : ∀ w', EnAt w' b e' → Tch [b] w w' → K (a.put o.dst undef) w') : o.wp Tryd.prog a w K Q := by
  have hlen : e'.cells.length = 7 := rfl
  have hsz : e.cells.toArray.size = 7 := rfl
  have hset := set_row (o := 0) hL (by rw [hlen, hsz]; omega) (ent_one e')
  rw [Nat.zero_add, List.take_zero, List.nil_append, List.drop_of_length_le (by rw [hlen]; exact Nat.le_refl _), List.append_nil] at hset
  refine wp_store_mid 52 x y ho b 0 e'.cells.toArray hx hy (fun j hj => ⟨?_, frozen_of_row w b _ _ _ hL⟩) ent_info (all_oneCell_toArray (ent_one e')) ?_
  · have hj' : j < 7 := hj
    rw [cell_of_row w b _ _ _ _ hL]; rw [Array.getElem?_eq_getElem (by rw [hsz]; omega)]; rfl
  · show K _ (w.setCells b 0 e'.cells)
    rw [hset]
    exact h _ (setRow_heap w b _ _ _ _ hL) (tch_row _)
theorem wpl_store_own {ops : Array Oper} {rest : List Oper} {dst : Option Tmp} {ty : TypeId} {pos : String} {aft : Array Edge} {a : Act} {w : World} {Q : Exit → Act → World → Prop} (x y : Operand) (b : Nat) (e e' : Ent) (hx : a.eval x = .pointer (some ⟨b, 0, none⟩)) (hy : a.eval y = .agg e'.cells.toArray) (hL : EnAt w b e)
    (h : ∀ w', EnAt w' b e' → Tch [b] w w' → wpList Tryd.prog ops Q rest (a.put dst undef) w') :
    wpList Tryd.prog ops Q (Oper.mk dst (.store 52 x y) ty pos aft none :: rest) a w :=
  wpList_plain rfl fun _ hK => wp_store_own x y rfl b e e' hx hy hL fun w' h1 h2 => hK _ _ (h w' h1 h2)
/-- a whole line is stored, at the operation itself -/
theorem wp_store_line {o : Oper} {a : Act} {w : World} {K : Act → World → Prop} {Q : Exit → Act → World → Prop} (x y : Operand) (ho : o.op = .store 55 x y) (b : Nat) (A B : List Ent) (n m : Int) (hx : a.eval x = .pointer (some ⟨b, 0, none⟩)) (hy : a.eval y = .agg (lnC B m).toArray) (hL : LnAt w b A n) (hB : B.length = 32)
    (h : ∀ w', LnAt w' b B m → Tch [b] w w' → K (a.put o.dst undef) w') : o.wp Tryd.prog a w K Q := by
  have hsz := lnC_arr A n hL.len
  have hsz2 := lnC_arr B m hB
  have hlen : (lnC B m).length = 225 := by rw [lnC_len, hB]
  have hset := set_row (o := 0) hL.row (by rw [hlen, hsz]; omega) (lnC_one B m)
  rw [Nat.zero_add, List.take_zero, List.nil_append, List.drop_of_length_le (by rw [hlen]; simp [lnC_len, hL.len]), List.append_nil] at hset
  refine wp_store_mid 55 x y ho b 0 (lnC B m).toArray hx hy (fun j hj => ⟨?_, frozen_of_row w b _ _ _ hL.row⟩) (by rw [line_info, hsz2]) (all_oneCell_toArray (lnC_one B m)) ?_
  · rw [hsz2] at hj
    rw [cell_of_row w b _ _ _ _ hL.row]; rw [Array.getElem?_eq_getElem (by rw [hsz]; omega)]; rfl
  · show K _ (w.setCells b 0 (lnC B m))
    rw [hset]
    exact h _ ⟨hB, setRow_heap w b _ _ _ _ hL.row⟩ (tch_row _)
theorem range_line {w : World} {b : Nat} {A : List Ent} {n : Int} (h : LnAt w b A n) : w.rangeAt b 0 (lnC A n) := fun j v hv => by
  rw [Nat.zero_add, cell_of_row w b _ _ _ _ h.row, List.getElem?_toArray]; exact hv
theorem range_fr {w : World} {b : Nat} {id : Int} {lo fa re : Bool} {sz : Int} {a : Option Addr} {len cap : Nat} (h : FrAt w b id lo fa re sz a len cap) : w.rangeAt b 0 [.int .i64 id, .bool lo, .bool fa, .bool re, .int .i64 sz, .slice a len cap] := fun j v hv => by
  rw [Nat.zero_add]
  match j, hv with
  | 0, hv => cases hv; exact h.c0
  | 1, hv => cases hv; exact h.c1
  | 2, hv => cases hv; exact h.c2
  | 3, hv => cases hv; exact h.c3
  | 4, hv => cases hv; exact h.c4
  | 5, hv => cases hv; exact h.c5
theorem le_results (tmps : Array Value) (w : World) (b b' : Nat) (A : List Ent) (n : Int) (x : Ent) (y : Value) (hp : tmps.getD 4 undef = .pointer (some ⟨b, 0, none⟩)) (hq : tmps.getD 5 undef = .pointer (some ⟨b', 0, none⟩)) (hy : tmps.getD 6 undef = y) (h : LnAt w b A n) (h' : EnAt w b' x) :
    (results Tryd.f28 tmps).run Tryd.prog w = .ok (.tuple #[.agg (lnC A n).toArray, .agg x.cells.toArray, y]) w := by
  have hl := run_loadVar_row (P := Tryd.prog) w b 55 55 _ (0, 0) _ h.row Tryd.underlying55 rfl (by rw [line_info, lnC_arr _ _ h.len])
  have hl' := run_loadVar_row (P := Tryd.prog) w b' 52 52 _ (0, 0) _ h' Tryd.underlying52 rfl ent_info
  have hp' : tmps[4]?.getD undef = .pointer (some ⟨b, 0, none⟩) := by simpa using hp
  have hq' : tmps[5]?.getD undef = .pointer (some ⟨b', 0, none⟩) := by simpa using hq
  have hy' : tmps[6]?.getD undef = y := by simpa using hy
  simp [results, hp', hq', hy', asAddr, hl, hl']
theorem FrAt.tch {gs : List Nat} {w w' : World} {g : Nat} {id : Int} {lo fa re : Bool} {sz : Int} {a : Option Addr} {len cap : Nat} (h : FrAt w g id lo fa re sz a len cap) (ht : Tch gs w w') (hg : g ∉ gs) : FrAt w' g id lo fa re sz a len cap := by
  have hlt : g < w.heap.size := block_lt_of_cell h.c0
  have e : ∀ k, w'.cell? ⟨g, k, none⟩ = w.cell? ⟨g, k, none⟩ := fun k => by unfold World.cell?; rw [ht.block g hlt hg]
  exact ⟨by rw [e]; exact h.c0, by rw [e]; exact h.c1, by rw [e]; exact h.c2, by rw [e]; exact h.c3, by rw [e]; exact h.c4, by rw [e]; exact h.c5⟩
/-- what it answers: what is wrong, or a line and an entry -/
def leE (l : List FrV) (f : Fr) : Int := if chkQ (l.map (·.f)) = 0 then frE f else chkQ (l.map (·.f))
set_option maxHeartbeats 2000000 in
set_option maxRecDepth 100000 in
theorem le_ok (a : Option Addr) (n cap : Nat) (l : List FrV) (v : FrV) (w : World) (hS : SizesAt w) (hF : IsFrames w a n cap l) (hY : IsBytes w v.a v.len v.cap v.f.dt) (hc : chkQ (l.map (·.f)) = 0) (hE : frE v.f = 0) :
    Calls Tryd.prog 28 #[.slice a n cap, frameV v.f.id v.f.lo v.f.fa v.f.re v.f.sz v.a v.len v.cap] w fun e w' => e = .returned (.tuple #[.agg (lnC (padA l l.length) l.length).toArray, .agg (entOf v).cells.toArray, .int .i64 0]) ∧ Below w.heap.size w w' := by
  obtain ⟨⟨id, lo, fa, re, sz, dt⟩, va, vl, vc⟩ := v
  simp only at hY hE ⊢
  have hb0 := below_box w id lo fa re sz va vl vc
  have hK0 := FrAt.box w id lo fa re sz va vl vc
  have hb1 := below_zero (w.alloc (frameC id lo fa re sz va vl vc))
  have hL1 := LnAt.zero (w.alloc (frameC id lo fa re sz va vl vc))
  have hb2 : Below ((w.alloc (frameC id lo fa re sz va vl vc)).alloc (Obj.cells Tryd.zeroCells55 55)).heap.size ((w.alloc (frameC id lo fa re sz va vl vc)).alloc (Obj.cells Tryd.zeroCells55 55)) (((w.alloc (frameC id lo fa re sz va vl vc)).alloc (Obj.cells Tryd.zeroCells55 55)).alloc (Obj.cells zE.cells.toArray 52)) := (Below.refl _ _).alloc (Nat.le_refl _) _
  have hE2 := EnAt.new ((w.alloc (frameC id lo fa re sz va vl vc)).alloc (Obj.cells Tryd.zeroCells55 55)) zE
  have k0 := (hK0.kept hb1).kept hb2
  have k1 := hL1.kept hb2
  have hs1 : (w.alloc (frameC id lo fa re sz va vl vc)).heap.size = w.heap.size + 1 := by simp
  have hs2 : ((w.alloc (frameC id lo fa re sz va vl vc)).alloc (Obj.cells Tryd.zeroCells55 55)).heap.size = w.heap.size + 2 := by simp
  rw [hs1] at k1
  rw [hs2] at hE2
  have kb := bl2 (bl2 hb0 hb1) hb2
  obtain ⟨W3, hW3⟩ : ∃ W3, W3 = (((w.alloc (frameC id lo fa re sz va vl vc)).alloc (Obj.cells Tryd.zeroCells55 55)).alloc (Obj.cells zE.cells.toArray 52)) := ⟨_, rfl⟩
  rw [← hW3] at k0 k1 hE2 kb
  have h1 := lineOf_any a n cap l W3 (hS.kept kb) ⟨hF.len, hF.le, hF.max, hF.none, fun x hx i hi k hk => cell_kept kb (hF.cell x hx i hi k hk), fun i hi => isBytes_below (hF.bytes i hi) kb⟩
  rw [hc, show lineL l = lnC (padA l l.length) l.length by unfold lineL; rw [if_pos hc]] at h1
  have hplen : (padA l l.length).length = 32 := padA_len l l.length (Nat.le_refl _) (by obtain ⟨q, _⟩ := chk_ok hc; rw [List.length_map] at q; omega)
  have hnm := fun W (h : SizesAt W) => frName_any ⟨id, lo, fa, re, sz, dt⟩ va vl vc W h (Nat.le_trans hY.2.1 hY.2.2.1) hY.1
  unfold nameA at hnm
  rw [if_pos hE] at hnm
  generalize hPA : padA l l.length = PA at *
  generalize (l.length : Int) = NN at *
  have H1 := Hid.mk h1
  have HNM := Hid.mk hnm
  have K0 := Hid.mk k0
  have K1 := Hid.mk k1
  have K2 := Hid.mk hE2
  have KB := Hid.mk kb
  have HS := Hid.mk hS
  unfold frameV at HNM ⊢
  simp only at HNM
  subst hW3
  unfold frameC at H1 K0 K1 K2 KB
  clear hb0 hK0 hb1 hL1 hb2 hE2 k0 k1 hs1 hs2 kb h1 hnm hF hS hY hc hE hPA
  obtain ⟨nm, hnmv⟩ : ∃ nm, nm = nameL ⟨id, lo, fa, re, sz, dt⟩ := ⟨_, rfl⟩
  rw [← hnmv] at HNM
  have HNV := Hid.mk hnmv
  clear hnmv
  go_enter Tryd.func28, Tryd.ntmps28
  go_wp2_with fail
  refine H1.out.mono ?_
  rintro e w1 ⟨rfl, hb1⟩
  have hb12 := bl2 hb1 (below_zero w1)
  have KB1 := Hid.mk (bl2 KB.out hb12)
  have L1 := Hid.mk (K1.out.kept hb12)
  have L2 := Hid.mk (K2.out.kept hb12)
  have L0 := Hid.mk (K0.out.kept hb12)
  have hl1 : w.heap.size + 2 < w1.heap.size := by
    have h1 := hb1.size
    have h2 := K2.out.lt
    omega
  clear hb1 hb12
  go_wp2_with (first | ((with_reducible_and_instances refine wpl_store_line (.tmp 7) (.tmp 13) w1.heap.size (List.replicate 32 zE) PA 0 NN ?_ ?_ (LnAt.zero w1) hplen ?_); rfl; rfl; intro w5 hL5 hT5; have HL5 := Hid.mk hL5; have HT5 := Hid.mk hT5; obtain ⟨c0, c1, c2, c3, c4, c5⟩ := L0.out.tch hT5 (by simp; omega); clear hL5 hT5))
  have HB5 := Hid.mk (Tch.below KB1.out HT5.out (by simp; omega) (Nat.le_refl _))
  refine (HNM.out _ (HS.out.kept HB5.out)).mono ?_
  rintro e w6 ⟨rfl, hb6⟩
  have HB6 := Hid.mk (bl2 HB5.out hb6)
  have HL6 := Hid.mk (HL5.out.kept hb6)
  have M1 := Hid.mk ((L1.out.tch HT5.out (by simp; omega)).kept hb6)
  have M2 := Hid.mk ((L2.out.tch HT5.out (by simp; omega)).kept hb6)
  have M0 := Hid.mk ((L0.out.tch HT5.out (by simp; omega)).kept hb6)
  clear hb6 c0 c1 c2 c3 c4 c5
  go_wp2_with fail
  refine wp_region_held_drew (S := fun W => LnAt W w1.heap.size PA NN ∧ FrAt W w.heap.size id lo fa re sz va vl vc) (by kernel_rfl) ⟨⟨HL6.out.len, HL6.out.row⟩, M0.out.kept ⟨rfl, rfl, rfl, Nat.le_refl _, fun _ _ => rfl⟩⟩ (fun hHeld => ?_)
  refine wpAnyH_take (i := 0) rfl (by kernel_rfl) (by kernel_rfl) (by kernel_rfl) (fun _ _ _ h => h) (yieldsIf_load_mid (by rfl) _ _ rfl _ _ rfl _ _ (fun W hW => range_line hW.1) Tryd.underlying55 rfl (by rw [line_info, lnC_len, hplen])) hHeld ?_
  simp only [List.getElem_toArray, List.getElem_cons_zero, Act.put, List.setIfInBounds_toArray, List.set_cons_zero, List.set_cons_succ]
  refine wpAnyH_take (i := 1) (v := .string ⟨nm.toArray⟩) rfl (by kernel_rfl) (by kernel_rfl) (by kernel_rfl) (fun _ _ _ h => h) (Or.inl ⟨by rfl, fun _ _ => rfl⟩) hHeld ?_
  simp only [List.getElem_toArray, List.getElem_cons_zero, List.getElem_cons_succ, Act.put, List.setIfInBounds_toArray, List.set_cons_zero, List.set_cons_succ]
  refine wpAnyH_take (i := 2) rfl (by kernel_rfl) (by kernel_rfl) (by kernel_rfl) (fun _ _ _ h => h) (yieldsIf_load_mid (by rfl) _ _ rfl _ _ rfl _ _ (fun W hW => range_fr hW.2) Tryd.underlying25 rfl fr_info) hHeld ?_
  simp only [List.getElem_toArray, List.getElem_cons_zero, List.getElem_cons_succ, Act.put, List.setIfInBounds_toArray, List.set_cons_zero, List.set_cons_succ]
  refine wpAnyH_take (i := 3) (v := .agg (Ent.cells ⟨nm, ⟨⟨id, lo, fa, re, sz, dt⟩, va, vl, vc⟩⟩).toArray) rfl (by kernel_rfl) (by kernel_rfl) (by kernel_rfl) (fun _ _ _ h => h) (Or.inl ⟨by rfl, fun W hW => by clear hW hHeld; go_simp; rfl⟩) hHeld ?_
  simp only [List.getElem_toArray, List.getElem_cons_zero, List.getElem_cons_succ, Act.put, List.setIfInBounds_toArray, List.set_cons_zero, List.set_cons_succ]
  refine wpAnyH_ready (rs := [4]) (by kernel_rfl) (by simp) ?_
  refine AllReadyH.cons rfl (fun K hK => ?_) AllReadyH.nil
  rw [if_pos (by rfl)]
  refine wp_store_line (.tmp 4) (.tmp 30) rfl (w.heap.size + 1) (List.replicate 32 zE) PA 0 NN rfl rfl ⟨M1.out.len, M1.out.row⟩ hplen ?_
  intro w7 hL7 hT7
  refine hK.out _ _ ⟨hHeld.1.tch hT7 (by simp; omega), hHeld.2.tch hT7 (by simp)⟩ (fun hHeld7 => ?_)
  clear hK K
  simp only [List.getElem_toArray, List.getElem_cons_zero, List.getElem_cons_succ, Act.put]
  refine wpAnyH_ready (rs := [5]) (by kernel_rfl) (by simp) ?_
  refine AllReadyH.cons rfl (fun K hK => ?_) AllReadyH.nil
  rw [if_pos (by rfl)]
  refine wp_store_own (.tmp 5) (.tmp 33) rfl (w.heap.size + 2) zE ⟨nm, ⟨⟨id, lo, fa, re, sz, dt⟩, va, vl, vc⟩⟩ rfl rfl (EnAt.tch (w := w6.drew) M2.out hT7 (by simp)) ?_
  intro w8 hE8 hT8
  refine hK.out _ _ ⟨hHeld7.1.tch hT8 (by simp; omega), hHeld7.2.tch hT8 (by simp)⟩ (fun hHeld8 => ?_)
  clear hK K
  simp only [List.getElem_toArray, List.getElem_cons_zero, List.getElem_cons_succ, Act.put]
  refine wpAnyH_take (i := 6) (v := .int .i64 0) rfl (by kernel_rfl) (by kernel_rfl) (by kernel_rfl) (fun _ _ _ h => h) (Or.inl ⟨by rfl, fun _ _ => rfl⟩) hHeld8 ?_
  simp only [List.getElem_toArray, List.getElem_cons_zero, List.getElem_cons_succ, Act.put, List.setIfInBounds_toArray, List.set_cons_zero, List.set_cons_succ]
  refine wpAnyH_done (by kernel_rfl) ?_ _
  have hL8 := hL7.tch hT8 (by simp)
  have hB8 : Below w.heap.size w w8 := Tch.below (Tch.below (HB6.out.trans (show Below w.heap.size w6 w6.drew from ⟨rfl, rfl, rfl, Nat.le_refl _, fun _ _ => rfl⟩)) hT7 (by simp) (Nat.le_refl _)) hT8 (by simp) (Nat.le_refl _)
  have hEn : (⟨nm, ⟨⟨id, lo, fa, re, sz, dt⟩, va, vl, vc⟩⟩ : Ent) = entOf ⟨⟨id, lo, fa, re, sz, dt⟩, va, vl, vc⟩ := by rw [HNV.out]; rfl
  rw [hEn] at hE8
  go_wp2_with fail
  refine bodyPost_ret (le_results _ _ (w.heap.size + 1) (w.heap.size + 2) _ _ _ _ rfl rfl rfl hL8 hE8) rfl ?_
  exact ⟨rfl, hB8⟩
set_option maxHeartbeats 2000000 in
set_option maxRecDepth 100000 in
theorem le_badF (a : Option Addr) (n cap : Nat) (l : List FrV) (v : FrV) (w : World) (hS : SizesAt w) (hF : IsFrames w a n cap l) (hY : IsBytes w v.a v.len v.cap v.f.dt) (hc : chkQ (l.map (·.f)) = 0) (hE : frE v.f ≠ 0) :
    Calls Tryd.prog 28 #[.slice a n cap, frameV v.f.id v.f.lo v.f.fa v.f.re v.f.sz v.a v.len v.cap] w fun e w' => e = .returned (.tuple #[.agg (lnC (List.replicate 32 zE) 0).toArray, .agg zE.cells.toArray, .int .i64 (frE v.f)]) ∧ Below w.heap.size w w' := by
  obtain ⟨⟨id, lo, fa, re, sz, dt⟩, va, vl, vc⟩ := v
  simp only at hY hE ⊢
  have hb0 := below_box w id lo fa re sz va vl vc
  have hK0 := FrAt.box w id lo fa re sz va vl vc
  have hb1 := below_zero (w.alloc (frameC id lo fa re sz va vl vc))
  have hL1 := LnAt.zero (w.alloc (frameC id lo fa re sz va vl vc))
  have hb2 : Below ((w.alloc (frameC id lo fa re sz va vl vc)).alloc (Obj.cells Tryd.zeroCells55 55)).heap.size ((w.alloc (frameC id lo fa re sz va vl vc)).alloc (Obj.cells Tryd.zeroCells55 55)) (((w.alloc (frameC id lo fa re sz va vl vc)).alloc (Obj.cells Tryd.zeroCells55 55)).alloc (Obj.cells zE.cells.toArray 52)) := (Below.refl _ _).alloc (Nat.le_refl _) _
  have hE2 := EnAt.new ((w.alloc (frameC id lo fa re sz va vl vc)).alloc (Obj.cells Tryd.zeroCells55 55)) zE
  have k0 := (hK0.kept hb1).kept hb2
  have k1 := hL1.kept hb2
  have hs1 : (w.alloc (frameC id lo fa re sz va vl vc)).heap.size = w.heap.size + 1 := by simp
  have hs2 : ((w.alloc (frameC id lo fa re sz va vl vc)).alloc (Obj.cells Tryd.zeroCells55 55)).heap.size = w.heap.size + 2 := by simp
  rw [hs1] at k1
  rw [hs2] at hE2
  have kb := bl2 (bl2 hb0 hb1) hb2
  obtain ⟨W3, hW3⟩ : ∃ W3, W3 = (((w.alloc (frameC id lo fa re sz va vl vc)).alloc (Obj.cells Tryd.zeroCells55 55)).alloc (Obj.cells zE.cells.toArray 52)) := ⟨_, rfl⟩
  rw [← hW3] at k0 k1 hE2 kb
  have h1 := lineOf_any a n cap l W3 (hS.kept kb) ⟨hF.len, hF.le, hF.max, hF.none, fun x hx i hi k hk => cell_kept kb (hF.cell x hx i hi k hk), fun i hi => isBytes_below (hF.bytes i hi) kb⟩
  rw [hc, show lineL l = lnC (padA l l.length) l.length by unfold lineL; rw [if_pos hc]] at h1
  have hplen : (padA l l.length).length = 32 := padA_len l l.length (Nat.le_refl _) (by obtain ⟨q, _⟩ := chk_ok hc; rw [List.length_map] at q; omega)
  have hnm := fun W (h : SizesAt W) => frName_any ⟨id, lo, fa, re, sz, dt⟩ va vl vc W h (Nat.le_trans hY.2.1 hY.2.2.1) hY.1
  unfold nameA at hnm
  rw [if_neg hE] at hnm
  have hne : (frE ⟨id, lo, fa, re, sz, dt⟩ != 0) = true := by simpa using hE
  generalize hPA : padA l l.length = PA at *
  generalize (l.length : Int) = NN at *
  have H1 := Hid.mk h1
  have HNM := Hid.mk hnm
  have K0 := Hid.mk k0
  have K1 := Hid.mk k1
  have K2 := Hid.mk hE2
  have KB := Hid.mk kb
  have HS := Hid.mk hS
  unfold frameV at HNM ⊢
  simp only at HNM
  subst hW3
  unfold frameC at H1 K0 K1 K2 KB
  clear hb0 hK0 hb1 hL1 hb2 hE2 k0 k1 hs1 hs2 kb h1 hnm hF hS hY hc hE hPA
  generalize frE ⟨id, lo, fa, re, sz, dt⟩ = ce at *
  go_enter Tryd.func28, Tryd.ntmps28
  go_wp2_with fail
  refine H1.out.mono ?_
  rintro e w1 ⟨rfl, hb1⟩
  have hb12 := bl2 hb1 (below_zero w1)
  have KB1 := Hid.mk (bl2 KB.out hb12)
  have L1 := Hid.mk (K1.out.kept hb12)
  have L2 := Hid.mk (K2.out.kept hb12)
  have L0 := Hid.mk (K0.out.kept hb12)
  have hl1 : w.heap.size + 2 < w1.heap.size := by
    have h1 := hb1.size
    have h2 := K2.out.lt
    omega
  clear hb1 hb12
  go_wp2_with (first | ((with_reducible_and_instances refine wpl_store_line (.tmp 7) (.tmp 13) w1.heap.size (List.replicate 32 zE) PA 0 NN ?_ ?_ (LnAt.zero w1) hplen ?_); rfl; rfl; intro w5 hL5 hT5; have HL5 := Hid.mk hL5; have HT5 := Hid.mk hT5; obtain ⟨c0, c1, c2, c3, c4, c5⟩ := L0.out.tch hT5 (by simp; omega); clear hL5 hT5))
  have HB5 := Hid.mk (Tch.below KB1.out HT5.out (by simp; omega) (Nat.le_refl _))
  refine (HNM.out _ (HS.out.kept HB5.out)).mono ?_
  rintro e w6 ⟨rfl, hb6⟩
  have HB6 := Hid.mk (bl2 HB5.out hb6)
  have HL6 := Hid.mk (HL5.out.kept hb6)
  have M1 := Hid.mk ((L1.out.tch HT5.out (by simp; omega)).kept hb6)
  have M2 := Hid.mk ((L2.out.tch HT5.out (by simp; omega)).kept hb6)
  have M0 := Hid.mk ((L0.out.tch HT5.out (by simp; omega)).kept hb6)
  clear hb6 c0 c1 c2 c3 c4 c5
  go_wp2_with (first | ((with_reducible_and_instances refine wpl_store_zero (.tmp 4) (.tmp 27) (w.heap.size + 1) (List.replicate 32 zE) 0 ?_ ?_ M1.out ?_); rfl; rfl; intro w7 hL7 hT7; have HL7 := Hid.mk hL7; have HT7 := Hid.mk hT7; clear hL7 hT7) | ((with_reducible_and_instances refine wpl_store_own (.tmp 5) (.tmp 28) (w.heap.size + 2) zE zE ?_ ?_ (M2.out.tch HT7.out (by simp)) ?_); rfl; rfl; intro w8 hE8 hT8))
  have hB8 : Below w.heap.size w w8 := Tch.below (Tch.below HB6.out HT7.out (by simp) (Nat.le_refl _)) hT8 (by simp) (Nat.le_refl _)
  refine bodyPost_ret (le_results _ _ (w.heap.size + 1) (w.heap.size + 2) _ _ _ _ rfl rfl rfl (HL7.out.tch hT8 (by simp)) hE8) rfl ?_
  exact ⟨rfl, hB8⟩
set_option maxHeartbeats 2000000 in
set_option maxRecDepth 100000 in
theorem le_badQ (a : Option Addr) (n cap : Nat) (l : List FrV) (v : FrV) (w : World) (hS : SizesAt w) (hF : IsFrames w a n cap l) (hc : chkQ (l.map (·.f)) ≠ 0) :
    Calls Tryd.prog 28 #[.slice a n cap, frameV v.f.id v.f.lo v.f.fa v.f.re v.f.sz v.a v.len v.cap] w fun e w' => e = .returned (.tuple #[.agg (lnC (List.replicate 32 zE) 0).toArray, .agg zE.cells.toArray, .int .i64 (chkQ (l.map (·.f)))]) ∧ Below w.heap.size w w' := by
  obtain ⟨⟨id, lo, fa, re, sz, dt⟩, va, vl, vc⟩ := v
  simp only
  have hb0 := below_box w id lo fa re sz va vl vc
  have hb1 := below_zero (w.alloc (frameC id lo fa re sz va vl vc))
  have hL1 := LnAt.zero (w.alloc (frameC id lo fa re sz va vl vc))
  have hb2 : Below ((w.alloc (frameC id lo fa re sz va vl vc)).alloc (Obj.cells Tryd.zeroCells55 55)).heap.size ((w.alloc (frameC id lo fa re sz va vl vc)).alloc (Obj.cells Tryd.zeroCells55 55)) (((w.alloc (frameC id lo fa re sz va vl vc)).alloc (Obj.cells Tryd.zeroCells55 55)).alloc (Obj.cells zE.cells.toArray 52)) := (Below.refl _ _).alloc (Nat.le_refl _) _
  have hE2 := EnAt.new ((w.alloc (frameC id lo fa re sz va vl vc)).alloc (Obj.cells Tryd.zeroCells55 55)) zE
  have k1 := hL1.kept hb2
  have hs1 : (w.alloc (frameC id lo fa re sz va vl vc)).heap.size = w.heap.size + 1 := by simp
  have hs2 : ((w.alloc (frameC id lo fa re sz va vl vc)).alloc (Obj.cells Tryd.zeroCells55 55)).heap.size = w.heap.size + 2 := by simp
  rw [hs1] at k1
  rw [hs2] at hE2
  have kb := bl2 (bl2 hb0 hb1) hb2
  obtain ⟨W3, hW3⟩ : ∃ W3, W3 = (((w.alloc (frameC id lo fa re sz va vl vc)).alloc (Obj.cells Tryd.zeroCells55 55)).alloc (Obj.cells zE.cells.toArray 52)) := ⟨_, rfl⟩
  rw [← hW3] at k1 hE2 kb
  have h1 := lineOf_any a n cap l W3 (hS.kept kb) ⟨hF.len, hF.le, hF.max, hF.none, fun x hx i hi k hk => cell_kept kb (hF.cell x hx i hi k hk), fun i hi => isBytes_below (hF.bytes i hi) kb⟩
  rw [show lineL l = lnC (List.replicate 32 zE) 0 by unfold lineL; rw [if_neg hc]] at h1
  have hplen : (List.replicate 32 zE).length = 32 := by simp
  have hne : (chkQ (l.map (·.f)) != 0) = true := by simpa using hc
  generalize chkQ (l.map (·.f)) = ce at *
  have H1 := Hid.mk h1
  have K1 := Hid.mk k1
  have K2 := Hid.mk hE2
  have KB := Hid.mk kb
  unfold frameV
  subst hW3
  unfold frameC at H1 K1 K2 KB
  clear hb0 hb1 hL1 hb2 hE2 k1 hs1 hs2 kb h1 hF hS hc
  go_enter Tryd.func28, Tryd.ntmps28
  go_wp2_with fail
  refine H1.out.mono ?_
  rintro e w1 ⟨rfl, hb1⟩
  have hb12 := bl2 hb1 (below_zero w1)
  have KB1 := Hid.mk (bl2 KB.out hb12)
  have L1 := Hid.mk (K1.out.kept hb12)
  have L2 := Hid.mk (K2.out.kept hb12)
  have hl1 : w.heap.size + 2 < w1.heap.size := by
    have h1 := hb1.size
    have h2 := K2.out.lt
    omega
  clear hb1 hb12
  go_wp2_with (first | ((with_reducible_and_instances refine wpl_store_line (.tmp 7) (.tmp 13) w1.heap.size (List.replicate 32 zE) (List.replicate 32 zE) 0 0 ?_ ?_ (LnAt.zero w1) hplen ?_); rfl; rfl; intro w5 hL5 hT5; have M1 := Hid.mk (L1.out.tch hT5 (by simp; omega)); have M2 := Hid.mk (L2.out.tch hT5 (by simp; omega)); have HB6 := Hid.mk (Tch.below KB1.out hT5 (by simp; omega) (Nat.le_refl _)); clear hL5 hT5) | ((with_reducible_and_instances refine wpl_store_zero (.tmp 4) (.tmp 17) (w.heap.size + 1) (List.replicate 32 zE) 0 ?_ ?_ M1.out ?_); rfl; rfl; intro w7 hL7 hT7; have HL7 := Hid.mk hL7; have HT7 := Hid.mk hT7; clear hL7 hT7) | ((with_reducible_and_instances refine wpl_store_own (.tmp 5) (.tmp 18) (w.heap.size + 2) zE zE ?_ ?_ (M2.out.tch HT7.out (by simp)) ?_); rfl; rfl; intro w8 hE8 hT8))
  have hB8 : Below w.heap.size w w8 := Tch.below (Tch.below HB6.out HT7.out (by simp) (Nat.le_refl _)) hT8 (by simp) (Nat.le_refl _)
  refine bodyPost_ret (le_results _ _ (w.heap.size + 1) (w.heap.size + 2) _ _ _ _ rfl rfl rfl (HL7.out.tch hT8 (by simp)) hE8) rfl ?_
  exact ⟨rfl, hB8⟩
end Bw
end Go.Proofs.YthdffdobkampaaaDoor

/- What queue.Put answers. -/
namespace Go.Proofs.YthdffdobkampaaaDoor
open Go.ChangeShapes Go.WideShapes Go.ChangeAt Go.RowKit
namespace Bw
open Bm Cm
theorem IsFrames.kept {w w' : World} {a : Option Addr} {n cap : Nat} {l : List FrV} (h : IsFrames w a n cap l) (hb : Below w.heap.size w w') : IsFrames w' a n cap l :=
  ⟨h.len, h.le, h.max, h.none, fun x hx i hi k hk => cell_kept hb (h.cell x hx i hi k hk), fun i hi => isBytes_below (h.bytes i hi) hb⟩
theorem IsFrames.all {w : World} {a : Option Addr} {n cap : Nat} {l : List FrV} (h : IsFrames w a n cap l) : ∀ v ∈ l, IsBytes w v.a v.len v.cap v.f.dt := by
  intro v hv
  obtain ⟨j, hj, rfl⟩ := List.mem_iff_getElem.1 hv
  exact h.bytes j hj
theorem padA_all (l : List FrV) : padA l l.length = l.map entOf ++ List.replicate (32 - l.length) zE := by unfold padA; rw [List.take_length]
/-- lineAndEntry's answer, whatever it is -/
theorem le_any (a : Option Addr) (n cap : Nat) (l : List FrV) (v : FrV) (w : World) (hS : SizesAt w) (hF : IsFrames w a n cap l) (hY : IsBytes w v.a v.len v.cap v.f.dt) :
    Calls Tryd.prog 28 #[.slice a n cap, frameV v.f.id v.f.lo v.f.fa v.f.re v.f.sz v.a v.len v.cap] w fun e w' => ∃ B m x, e = .returned (.tuple #[.agg (lnC B m).toArray, .agg x.cells.toArray, .int .i64 (leE l v.f)]) ∧ B.length = 32 ∧ (leE l v.f = 0 → B = padA l l.length ∧ m = l.length ∧ x = entOf v) ∧ Below w.heap.size w w' := by
  by_cases hc : chkQ (l.map (·.f)) = 0
  · have e0 : leE l v.f = frE v.f := by unfold leE; rw [if_pos hc]
    rw [e0]
    by_cases hE : frE v.f = 0
    · refine (le_ok a n cap l v w hS hF hY hc hE).mono ?_
      rintro e w' ⟨rfl, hb⟩
      exact ⟨_, _, _, by rw [hE], padA_len l l.length (Nat.le_refl _) (by obtain ⟨q, _⟩ := chk_ok hc; rw [List.length_map] at q; omega), fun _ => ⟨rfl, rfl, rfl⟩, hb⟩
    · refine (le_badF a n cap l v w hS hF hY hc hE).mono ?_
      rintro e w' ⟨rfl, hb⟩
      exact ⟨_, _, _, rfl, by simp, fun h => absurd h hE, hb⟩
  · have e0 : leE l v.f = chkQ (l.map (·.f)) := by unfold leE; rw [if_neg hc]
    rw [e0]
    refine (le_badQ a n cap l v w hS hF hc).mono ?_
    rintro e w' ⟨rfl, hb⟩
    exact ⟨_, _, _, rfl, by simp, fun h => absurd h hc, hb⟩
theorem two_new (W T : World) (hT : T = (W.alloc (Obj.cells Tryd.zeroCells55 55)).alloc (Obj.cells #[.string ⟨#[]⟩, .int .i64 0, .bool false, .bool false, .bool false, .int .i64 0, .slice none 0 0] 52)) : LnAt T W.heap.size (List.replicate 32 zE) 0 ∧ EnAt T (W.heap.size + 1) zE ∧ Below W.heap.size W T := by
  have hb : Below (W.alloc (Obj.cells Tryd.zeroCells55 55)).heap.size (W.alloc (Obj.cells Tryd.zeroCells55 55)) T := by rw [hT]; exact (Below.refl _ _).alloc (Nat.le_refl _) _
  have hs : (W.alloc (Obj.cells Tryd.zeroCells55 55)).heap.size = W.heap.size + 1 := by simp
  have h2 := EnAt.new (W.alloc (Obj.cells Tryd.zeroCells55 55)) zE
  rw [hs] at h2
  exact ⟨(LnAt.zero W).kept hb, by rw [hT]; exact h2, bl2 (below_zero W) hb⟩
def putE (l : List FrV) (f : Fr) : Int := if leE l f = 0 then (if l.length = 16 then 11 else 0) else leE l f
/-- put's answer, whatever it is -/
theorem put_any (l : List FrV) (v : FrV) (w : World) (hq : leE l v.f = 0) (hY : ∀ u ∈ l, IsBytes w u.a u.len u.cap u.f.dt) (hYv : IsBytes w v.a v.len v.cap v.f.dt) :
    Calls Tryd.prog 29 #[.agg (lnC (padA l l.length) l.length).toArray, .agg (entOf v).cells.toArray] w fun e w' => ∃ r l', e = .returned (.tuple #[r, .int .i64 (putE l v.f)]) ∧ OwnFrs w' w.heap.size r l' ∧ (putE l v.f = 0 → l'.map (·.f) = putF (l.map (·.f)) v.f) ∧ (putE l v.f ≠ 0 → r = .slice none 0 0 ∧ l' = []) ∧ Below w.heap.size w w' := by
  have hc : chkQ (l.map (·.f)) = 0 := by
    unfold leE at hq
    split at hq
    · rename_i h; exact h
    · rename_i h; exact absurd hq h
  have hE : frE v.f = 0 := by unfold leE at hq; rw [if_pos hc] at hq; exact hq
  obtain ⟨q1, q2, _⟩ := chk_ok hc
  rw [List.length_map] at q1
  rw [padA_all]
  have hlz : l.length + (List.replicate (32 - l.length) zE).length = 32 := by rw [List.length_replicate]; omega
  by_cases h16 : l.length = 16
  · have e0 : putE l v.f = 11 := by unfold putE; rw [if_pos hq, if_pos h16]
    rw [e0]
    refine (put_full l _ v w hlz h16).mono ?_
    rintro e w' ⟨rfl, hb⟩
    exact ⟨_, [], rfl, OwnFrs.nil _ _, (fun h => absurd h (by decide)), fun _ => ⟨rfl, rfl⟩, hb⟩
  · have e0 : putE l v.f = 0 := by unfold putE; rw [if_pos hq, if_neg h16]
    rw [e0]
    refine (put_room l _ v w hlz (by omega) hY (fun u hu => q2 _ (List.mem_map_of_mem hu)) hYv hE).mono ?_
    rintro e w' ⟨r, l', rfl, hf, ho, hb⟩
    exact ⟨r, l', rfl, ho, fun _ => hf, fun h => absurd rfl h, hb⟩
set_option maxHeartbeats 1000000 in
set_option maxRecDepth 100000 in
theorem Put_any (a : Option Addr) (n cap : Nat) (l : List FrV) (v : FrV) (w : World) (hS : SizesAt w) (hF : IsFrames w a n cap l) (hY : IsBytes w v.a v.len v.cap v.f.dt) :
    Calls Tryd.prog 8 #[.slice a n cap, frameV v.f.id v.f.lo v.f.fa v.f.re v.f.sz v.a v.len v.cap] w fun e w' => ∃ r l', e = .returned (.tuple #[r, .int .i64 (putE l v.f)]) ∧ OwnFrs w' w.heap.size r l' ∧ (putE l v.f = 0 → l'.map (·.f) = putF (l.map (·.f)) v.f) ∧ (putE l v.f ≠ 0 → r = .slice none 0 0 ∧ l' = []) ∧ Below w.heap.size w w' := by
  have hb0 := below_box w v.f.id v.f.lo v.f.fa v.f.re v.f.sz v.a v.len v.cap
  have h1 := le_any a n cap l v _ (hS.kept hb0) (hF.kept hb0) (isBytes_below hY hb0)
  have hYl := hF.all
  have h2 := fun W hq hb => put_any l v W hq (fun u hu => isBytes_below (hYl u hu) hb) (isBytes_below hY hb)
  have hput : leE l v.f ≠ 0 → putE l v.f = leE l v.f := fun h => by unfold putE; rw [if_neg h]
  have H1 := Hid.mk h1
  have H2 := Hid.mk h2
  have KB := Hid.mk hb0
  have HPT := Hid.mk hput
  unfold frameV at H1 ⊢
  unfold frameC at H1 KB
  clear hb0 h1 hYl h2 hS hF hY hput
  generalize putE l v.f = pe at *
  go_enter Tryd.func8, Tryd.ntmps8
  go_wp2_with fail
  refine H1.out.mono ?_
  rintro e w1 ⟨B, m, x, rfl, hBl, hok, hb1⟩
  obtain ⟨t0, t1, t2⟩ := two_new w1 _ rfl
  have KB1 := Hid.mk (bl2 KB.out (bl2 hb1 t2))
  have T0 := Hid.mk t0
  have T1 := Hid.mk t1
  have HOK := Hid.mk hok
  have hsz := (bl2 KB.out hb1).size
  have HLN := Hid.mk hsz
  clear hb1 t0 t1 t2 hok hsz
  by_cases hq : leE l v.f = 0
  · obtain ⟨rfl, rfl, rfl⟩ := HOK.out hq
    have H2q := Hid.mk (fun W hb => H2.out W hq hb)
    rw [hq]
    clear HOK H2 HPT hq
    go_wp2_with (first | ((with_reducible_and_instances refine wpl_store_line (.tmp 6) (.tmp 13) w1.heap.size (List.replicate 32 zE) (padA l l.length) 0 l.length ?_ ?_ T0.out hBl ?_); rfl; rfl; intro w5 hL5 hT5; have HL5 := Hid.mk hL5; have HT5 := Hid.mk hT5; clear hL5 hT5) | ((with_reducible_and_instances refine wpl_store_own (.tmp 7) (.tmp 14) (w1.heap.size + 1) zE (entOf v) ?_ ?_ (T1.out.tch HT5.out (by simp)) ?_); rfl; rfl; intro w6 hE6 hT6; have HE6 := Hid.mk hE6; have HL6 := Hid.mk (HL5.out.tch hT6 (by simp)); have HB6 := Hid.mk (Tch.below (Tch.below KB1.out HT5.out (by simp; exact HLN.out) (Nat.le_refl _)) hT6 (by simp; have := HLN.out; omega) (Nat.le_refl _)); clear hE6 hT6) | ((with_reducible_and_instances refine wpl_load_line (.tmp 6) w1.heap.size _ _ ?_ HL6.out ?_); rfl) | ((with_reducible_and_instances refine wpl_load_own (.tmp 7) (w1.heap.size + 1) (entOf v) ?_ HE6.out ?_); rfl))
    refine (H2q.out _ HB6.out).mono ?_
    rintro e w7 ⟨r, l', rfl, ho, hf, hn, hb7⟩
    go_wp2_with fail
    go_ret2
    exact ⟨r, l', rfl, ho.mono HB6.out.size, hf, hn, bl2 HB6.out hb7⟩
  · have hpe := HPT.out hq
    have hne : (leE l v.f != 0) = true := by simpa using hq
    generalize leE l v.f = le at *
    subst hpe
    go_wp2_with (first | ((with_reducible_and_instances refine wpl_store_line (.tmp 6) (.tmp 13) w1.heap.size (List.replicate 32 zE) B 0 m ?_ ?_ T0.out hBl ?_); rfl; rfl; intro w5 hL5 hT5; have HT5 := Hid.mk hT5; clear hL5 hT5) | ((with_reducible_and_instances refine wpl_store_own (.tmp 7) (.tmp 14) (w1.heap.size + 1) zE x ?_ ?_ (T1.out.tch HT5.out (by simp)) ?_); rfl; rfl; intro w6 hE6 hT6; have HB6 := Hid.mk (Tch.below (Tch.below KB1.out HT5.out (by simp; exact HLN.out) (Nat.le_refl _)) hT6 (by simp; have := HLN.out; omega) (Nat.le_refl _)); clear hE6 hT6))
    go_ret2
    exact ⟨_, [], rfl, OwnFrs.nil _ _, fun h => absurd h hq, fun _ => ⟨rfl, rfl⟩, HB6.out⟩
end Bw
end Go.Proofs.YthdffdobkampaaaDoor

/- What queue.Take answers. -/
namespace Go.Proofs.YthdffdobkampaaaDoor
open Go.ChangeShapes Go.WideShapes Go.ChangeAt Go.RowKit
namespace Bw
open Bm Cm
/-- the block of a frame -/
def FmAt (w : World) (b : Nat) (v : FrV) : Prop := w.heap[b]? = some (.cells v.cells.toArray 25 (0, 0))
theorem FmAt.lt {w : World} {b : Nat} {v : FrV} (h : FmAt w b v) : b < w.heap.size := (Array.getElem?_eq_some_iff.1 h).1
theorem FmAt.kept {w w' : World} {b : Nat} {v : FrV} (h : FmAt w b v) (hb : Below w.heap.size w w') : FmAt w' b v := by unfold FmAt; rw [hb.block b h.lt]; exact h
theorem FmAt.tch {gs : List Nat} {w w' : World} {b : Nat} {v : FrV} (h : FmAt w b v) (ht : Tch gs w w') (hb : b ∉ gs) : FmAt w' b v := by unfold FmAt; rw [ht.block b h.lt hb]; exact h
theorem FmAt.new (w : World) (v : FrV) : FmAt (w.alloc (.cells v.cells.toArray 25)) w.heap.size v := heap_alloc_new w _
theorem frv_one (v : FrV) : ∀ u ∈ v.cells, u.oneCell' = true := by
  intro u hu
  unfold FrV.cells at hu
  simp only [List.mem_cons, List.not_mem_nil, or_false] at hu
  rcases hu with rfl | rfl | rfl | rfl | rfl | rfl <;> rfl
/-- a frame of its own is stored -/
theorem wp_store_fm {o : Oper} {a : Act} {w : World} {K : Act → World → Prop} {Q : Exit → Act → World → Prop} (x y : Operand) (ho : o.op = .store 25 x y) (b : Nat) (e e' : FrV) (hx : a.eval x = .pointer (some ⟨b, 0, none⟩)) (hy : a.eval y = .agg e'.cells.toArray) (hL : FmAt w b e)
    (h : ∀ w', FmAt w' b e' → Tch [b] w w' → K (a.put o.dst undef) w') : o.wp Tryd.prog a w K Q := by
  have hlen : e'.cells.length = 6 := rfl
  have hsz : e.cells.toArray.size = 6 := rfl
  have hset := set_row (o := 0) hL (by rw [hlen, hsz]; omega) (frv_one e')
  rw [Nat.zero_add, List.take_zero, List.nil_append, List.drop_of_length_le (by rw [hlen]; exact Nat.le_refl _), List.append_nil] at hset
  refine wp_store_mid 25 x y ho b 0 e'.cells.toArray hx hy (fun j hj => ⟨?_, frozen_of_row w b _ _ _ hL⟩) fr_info (all_oneCell_toArray (frv_one e')) ?_
  · have hj' : j < 6 := hj
    rw [cell_of_row w b _ _ _ _ hL]; rw [Array.getElem?_eq_getElem (by rw [hsz]; omega)]; rfl
  · show K _ (w.setCells b 0 e'.cells)
    rw [hset]
    exact h _ (setRow_heap w b _ _ _ _ hL) (tch_row _)
theorem wpl_store_fm {ops : Array Oper} {rest : List Oper} {dst : Option Tmp} {ty : TypeId} {pos : String} {aft : Array Edge} {a : Act} {w : World} {Q : Exit → Act → World → Prop} (x y : Operand) (b : Nat) (e e' : FrV) (hx : a.eval x = .pointer (some ⟨b, 0, none⟩)) (hy : a.eval y = .agg e'.cells.toArray) (hL : FmAt w b e)
    (h : ∀ w', FmAt w' b e' → Tch [b] w w' → wpList Tryd.prog ops Q rest (a.put dst undef) w') :
    wpList Tryd.prog ops Q (Oper.mk dst (.store 25 x y) ty pos aft none :: rest) a w :=
  wpList_plain rfl fun _ hK => wp_store_fm x y rfl b e e' hx hy hL fun w' h1 h2 => hK _ _ (h w' h1 h2)
theorem tk_results (tmps : Array Value) (w : World) (b : Nat) (v : FrV) (y z : Value) (hp : tmps.getD 2 undef = .pointer (some ⟨b, 0, none⟩)) (hy : tmps.getD 3 undef = y) (hz : tmps.getD 4 undef = z) (h : FmAt w b v) :
    (results Tryd.f10 tmps).run Tryd.prog w = .ok (.tuple #[.agg v.cells.toArray, y, z]) w := by
  have hl := run_loadVar_row (P := Tryd.prog) w b 25 25 _ (0, 0) _ h Tryd.underlying25 rfl fr_info
  have hp' : tmps[2]?.getD undef = .pointer (some ⟨b, 0, none⟩) := by simpa using hp
  have hy' : tmps[3]?.getD undef = y := by simpa using hy
  have hz' : tmps[4]?.getD undef = z := by simpa using hz
  simp [results, hp', hy', hz', asAddr, hl]
theorem elem_fr : Tryd.prog.elem 22 = 25 := by kernel_rfl
theorem size_fr (W : World) : (sizeOf 25).run Tryd.prog W = .ok 6 W := by simp [go_sem]
theorem und_fr : Tryd.prog.underlying 22 = some (.slice (Tryd.prog.elem 22)) := by rw [elem_fr]; exact Tryd.underlying22
theorem slice_fr (x : Addr) (n c k : Nat) (hk : k ≤ n) (W : World) : (Instr.slice 22 (.slice (some x) n c) (some (.int .i64 (k : Int))) none none).run Tryd.prog W = .ok (.slice (some (if c = k then x else x.add (k * 6))) (n - k) (c - k)) W := by
  rw [run_slice_l (ht := und_fr) (h0 := by omega) (h1 := by omega), elem_fr, size_fr]
  simp only [Result.andThen, sliced, Int.toNat_natCast]
  split <;> rfl
theorem frames_drop {w : World} {x : Addr} {n c : Nat} {l : List FrV} (h : IsFrames w (some x) n c l) (k : Nat) (hk : k ≤ n) : IsFrames w (some (if c = k then x else x.add (k * 6))) (n - k) (c - k) (l.drop k) := by
  have hl := h.len
  have hc := h.le
  have hm := h.max
  refine ⟨by rw [List.length_drop]; omega, by omega, by omega, (fun h => by cases h), fun y hy i hi j hj => ?_, fun i hi => ?_⟩
  · rw [List.length_drop] at hi
    rw [if_neg (by omega)] at hy
    cases hy
    have ea : (x.add (k * 6)).add (i * 6 + j) = x.add (k * 6 + (i * 6 + j)) := by
      first | exact Addr.add_add _ _ _ | (unfold Addr.add; simp; omega)
    have h1 := h.cell x rfl (k + i) (by omega) j hj
    rw [ea, show k * 6 + (i * 6 + j) = (k + i) * 6 + j by omega, h1]
    simp only [List.getElem_drop]
    rfl
  · rw [List.getElem_drop]
    rw [List.length_drop] at hi
    exact h.bytes (k + i) (by omega)
theorem range_tch {gs : List Nat} {w w' : World} {b o : Nat} {cs : List Value} (h : w.rangeAt b o cs) (ht : Tch gs w w') (hb : b ∉ gs) : w'.rangeAt b o cs := by
  intro j v hv
  have h1 := h j v hv
  have hlt := block_lt_of_cell h1
  unfold World.cell? at h1 ⊢
  rw [ht.block b hlt hb]
  exact h1
theorem IsFrames.tch {gs : List Nat} {w w' : World} {a : Option Addr} {n cap : Nat} {l : List FrV} (h : IsFrames w a n cap l) (ht : Tch gs w w') (ha : ∀ x, a = some x → x.block ∉ gs) (hd : ∀ v ∈ l, ∀ x, v.a = some x → x.block ∉ gs) : IsFrames w' a n cap l := by
  refine ⟨h.len, h.le, h.max, h.none, fun x hx i hi k hk => ?_, fun i hi => isBytes_tchO (h.bytes i hi) ht (hd _ (List.getElem_mem hi))⟩
  have h1 := h.cell x hx i hi k hk
  have hlt := block_lt_of_cell h1
  have hblk : (x.add (i * 6 + k)).block = x.block := by unfold Addr.add; split <;> rfl
  unfold World.cell? at h1 ⊢
  rw [ht.block _ hlt (by rw [hblk]; exact ha x hx)]
  exact h1
def takeE (l : List Fr) : Int := if chkQ l = 0 then (if l.length = 0 then 8 else 0) else chkQ l
set_option maxHeartbeats 1000000 in
set_option maxRecDepth 100000 in
theorem take_bad (a : Option Addr) (n cap : Nat) (l : List FrV) (w : World) (hS : SizesAt w) (hF : IsFrames w a n cap l) (hq : chkQ (l.map (·.f)) ≠ 0 ∨ n = 0) :
    Calls Tryd.prog 10 #[.slice a n cap] w fun e w' => e = .returned (.tuple #[.agg zV.cells.toArray, .slice none 0 0, .int .i64 (takeE (l.map (·.f)))]) ∧ Below w.heap.size w w' := by
  have hb0 : Below w.heap.size w (w.alloc (.cells zV.cells.toArray 25)) := (Below.refl _ _).alloc (Nat.le_refl _) _
  have hM0 := FmAt.new w zV
  have h1 := lineOf_any a n cap l _ (hS.kept hb0) (hF.kept hb0)
  have HB0 := Hid.mk hb0
  have HM0 := Hid.mk hM0
  have hlen := hF.len
  by_cases hc : chkQ (l.map (·.f)) = 0
  · have hn0 : n = 0 := by rcases hq with h | h; exact absurd hc h; exact h
    have e0 : takeE (l.map (·.f)) = 8 := by unfold takeE; rw [if_pos hc, if_pos (by rw [List.length_map, hlen]; exact hn0)]
    rw [hc, show lineL l = lnC (padA l l.length) l.length by unfold lineL; rw [if_pos hc]] at h1
    have hplen : (padA l l.length).length = 32 := padA_len l l.length (Nat.le_refl _) (by omega)
    have hl0 : (l.length : Int) = 0 := by omega
    rw [hl0] at h1
    rw [e0]
    generalize padA l l.length = PA at *
    have H1 := Hid.mk h1
    subst hn0
    clear hb0 hM0 h1 hS hF hq hc e0 hl0 hlen
    go_enter Tryd.func10, Tryd.ntmps10
    go_wp2_with fail
    refine H1.out.mono ?_
    rintro e w1 ⟨rfl, hb1⟩
    have hb12 := bl2 hb1 (below_zero w1)
    have HM1 := Hid.mk (HM0.out.kept hb12)
    have HB1 := Hid.mk (bl2 HB0.out hb12)
    have hl1 : w.heap.size < w1.heap.size := (HM0.out.kept hb1).lt
    clear hb1 hb12
    go_wp2_with (first | ((with_reducible_and_instances refine wpl_store_line (.tmp 5) (.tmp 11) w1.heap.size (List.replicate 32 zE) PA 0 0 ?_ ?_ (LnAt.zero w1) hplen ?_); rfl; rfl; intro w5 hL5 hT5; have c5 := hL5.size; have HT5 := Hid.mk hT5; clear hL5 hT5) | ((with_reducible_and_instances refine wpl_store_fm (.tmp 2) (.tmp 20) w.heap.size zV zV ?_ ?_ (HM1.out.tch HT5.out (by simp; omega)) ?_); rfl; rfl; intro w6 hE6 hT6))
    refine bodyPost_ret (tk_results _ _ w.heap.size _ _ _ rfl rfl rfl hE6) rfl ?_
    exact ⟨rfl, Tch.below (Tch.below HB1.out HT5.out (by simp; omega) (Nat.le_refl _)) hT6 (by simp) (Nat.le_refl _)⟩
  · have e0 : takeE (l.map (·.f)) = chkQ (l.map (·.f)) := by unfold takeE; rw [if_neg hc]
    rw [show lineL l = lnC (List.replicate 32 zE) 0 by unfold lineL; rw [if_neg hc]] at h1
    rw [e0]
    have hplen : (List.replicate 32 zE).length = 32 := by simp
    have hne : (chkQ (l.map (·.f)) != 0) = true := by simpa using hc
    generalize chkQ (l.map (·.f)) = ce at *
    have H1 := Hid.mk h1
    clear hb0 hM0 h1 hS hF hq hc e0 hlen
    go_enter Tryd.func10, Tryd.ntmps10
    go_wp2_with fail
    refine H1.out.mono ?_
    rintro e w1 ⟨rfl, hb1⟩
    have hb12 := bl2 hb1 (below_zero w1)
    have HM1 := Hid.mk (HM0.out.kept hb12)
    have HB1 := Hid.mk (bl2 HB0.out hb12)
    have hl1 : w.heap.size < w1.heap.size := (HM0.out.kept hb1).lt
    clear hb1 hb12
    go_wp2_with (first | ((with_reducible_and_instances refine wpl_store_line (.tmp 5) (.tmp 11) w1.heap.size (List.replicate 32 zE) (List.replicate 32 zE) 0 0 ?_ ?_ (LnAt.zero w1) hplen ?_); rfl; rfl; intro w5 hL5 hT5; have HT5 := Hid.mk hT5; clear hL5 hT5) | ((with_reducible_and_instances refine wpl_store_fm (.tmp 2) (.tmp 15) w.heap.size zV zV ?_ ?_ (HM1.out.tch HT5.out (by simp; omega)) ?_); rfl; rfl; intro w6 hE6 hT6))
    refine bodyPost_ret (tk_results _ _ w.heap.size _ _ _ rfl rfl rfl hE6) rfl ?_
    exact ⟨rfl, Tch.below (Tch.below HB1.out HT5.out (by simp; omega) (Nat.le_refl _)) hT6 (by simp) (Nat.le_refl _)⟩
set_option maxHeartbeats 1000000 in
set_option maxRecDepth 100000 in
theorem take_ok (a : Option Addr) (n cap : Nat) (l : List FrV) (w : World) (hS : SizesAt w) (hF : IsFrames w a n cap l) (hc : chkQ (l.map (·.f)) = 0) (hn : 0 < n) :
    Calls Tryd.prog 10 #[.slice a n cap] w fun e w' => ∃ (v : FrV) (x : Addr) (c : Nat) (l2 : List FrV), e = .returned (.tuple #[.agg v.cells.toArray, .slice (some x) (n - 1) c, .int .i64 0]) ∧ v.f :: l2.map (·.f) = l.map (·.f) ∧ IsBytes w' v.a v.len v.cap v.f.dt ∧ IsFrames w' (some x) (n - 1) c l2 ∧ Below w.heap.size w w' := by
  have hb0 : Below w.heap.size w (w.alloc (.cells zV.cells.toArray 25)) := (Below.refl _ _).alloc (Nat.le_refl _) _
  have hM0 := FmAt.new w zV
  have h1 := lineOf_any a n cap l _ (hS.kept hb0) (hF.kept hb0)
  have HB0 := Hid.mk hb0
  have HM0 := Hid.mk hM0
  have hlen := hF.len
  obtain ⟨q1, q2, _⟩ := chk_ok hc
  rw [List.length_map] at q1
  rw [hc, show lineL l = lnC (padA l l.length) l.length by unfold lineL; rw [if_pos hc]] at h1
  have hplen : (padA l l.length).length = 32 := padA_len l l.length (Nat.le_refl _) (by omega)
  have hYl := hF.all
  have hfo := fun W (hb : Below w.heap.size w W) => framesOf_any l (List.replicate (32 - l.length) zE) W (by rw [List.length_replicate]; omega) (fun u hu => isBytes_below (hYl u hu) hb) (fun u hu => q2 _ (List.mem_map_of_mem hu))
  rw [← padA_all] at hfo
  generalize padA l l.length = PA at *
  have hl0 : (l.length : Int) = (n : Int) := by omega
  rw [hl0] at h1 hfo
  have H1 := Hid.mk h1
  have HFO := Hid.mk hfo
  have hnb : ((n : Int) == 0) = false := by simp; omega
  clear hb0 hM0 h1 hS hF hc hl0 hfo hYl q1 q2
  go_enter Tryd.func10, Tryd.ntmps10
  go_wp2_with fail
  refine H1.out.mono ?_
  rintro e w1 ⟨rfl, hb1⟩
  have hb12 := bl2 hb1 (below_zero w1)
  have HM1 := Hid.mk (HM0.out.kept hb12)
  have HB1 := Hid.mk (bl2 HB0.out hb12)
  have hl1 : w.heap.size < w1.heap.size := (HM0.out.kept hb1).lt
  clear hb1 hb12
  go_wp2_with (first | ((with_reducible_and_instances refine wpl_store_line (.tmp 5) (.tmp 11) w1.heap.size (List.replicate 32 zE) PA 0 n ?_ ?_ (LnAt.zero w1) hplen ?_); rfl; rfl; intro w5 hL5 hT5; have c5 := hL5.size; have HL5 := Hid.mk hL5; have HT5 := Hid.mk hT5; clear hL5 hT5) | ((with_reducible_and_instances refine wpl_load_line (.tmp 5) w1.heap.size _ _ ?_ HL5.out ?_); rfl))
  have HB5 := Hid.mk (Tch.below HB1.out HT5.out (by simp; omega) (Nat.le_refl _))
  have HM5 := Hid.mk (HM1.out.tch HT5.out (by simp; omega))
  refine (HFO.out _ HB5.out).mono ?_
  rintro e w6 ⟨r, l', rfl, hf, ho, hb6⟩
  have HB6 := Hid.mk (bl2 HB5.out hb6)
  have HM6 := Hid.mk (HM5.out.kept hb6)
  have hl' : l'.length = n := by have := congrArg List.length hf; simpa [hlen] using this
  obtain ⟨a6, c6, rfl, hF6⟩ := ho.frames
  obtain ⟨g, rfl, hg⟩ : ∃ g, a6 = some ⟨g, 0, none⟩ ∧ w.heap.size < g := by
    rcases ho.row.2 with ⟨h1, h2⟩ | ⟨g, cap2, cur, h1, hg, _⟩
    · omega
    · refine ⟨g, ?_, ?_⟩
      · injection h1
      · have := HM5.out.lt; omega
  rw [hl'] at hF6 ⊢
  obtain ⟨v, l2, rfl⟩ : ∃ v l2, l' = v :: l2 := by
    cases l' with
    | nil => simp at hl'; omega
    | cons v l2 => exact ⟨v, l2, rfl⟩
  have hFd := frames_drop hF6 1 (by omega)
  have hsl := fun W => slice_fr ⟨g, 0, none⟩ n c6 1 (by omega) W
  rw [show ((1 : Nat) : Int) = 1 from rfl] at hsl
  have hxb : (if c6 = 1 then (⟨g, 0, none⟩ : Addr) else Addr.add ⟨g, 0, none⟩ (1 * 6)).block = g := by
    split
    · rfl
    · unfold Addr.add; split <;> rfl
  generalize (if c6 = 1 then (⟨g, 0, none⟩ : Addr) else Addr.add ⟨g, 0, none⟩ (1 * 6)) = x2 at *
  have hrg : w6.rangeAt g 0 v.cells := by
    intro j u hj
    obtain ⟨hj6, hju⟩ := List.getElem?_eq_some_iff.1 hj
    have h2 := hF6.cell ⟨g, 0, none⟩ rfl 0 (by simp) j hj6
    rw [Nat.zero_mul, Nat.zero_add, Addr.add_mid] at h2
    rw [h2]
    exact congrArg some hju
  have hYv := hF6.bytes 0 (by simp)
  have HFd := Hid.mk hFd
  have HRG := Hid.mk hrg
  have HYV := Hid.mk (show IsBytes w6 v.a v.len v.cap v.f.dt from hYv)
  have HFM := Hid.mk hf
  have hn' : (0 : Int) < (n : Int) := by omega
  have hn1 : (1 : Int) ≤ (n : Int) := by omega
  have hfr : ∀ u ∈ v :: l2, ∀ y, u.a = some y → y.block ∉ [w.heap.size] := by
    intro u hu y hy e
    have h1 := ho.fresh u hu y hy
    have h2 := HM5.out.lt
    simp at e
    omega
  have HFR := Hid.mk hfr
  have HXB := Hid.mk hxb
  clear ho hb6 HT5 c5 hF6 hFd hrg hf hYv hfr hxb
  go_wp2_with fail
  refine wp_region_held_drew (S := fun W => W.rangeAt g 0 v.cells) (by kernel_rfl) HRG.out (fun hHeld => ?_)
  refine wpAnyH_take (i := 0) (v := .slice (some ⟨g, 0, none⟩) n c6) rfl (by kernel_rfl) (by kernel_rfl) (by kernel_rfl) (fun _ _ _ h => h) (Or.inl ⟨by rfl, fun _ _ => rfl⟩) hHeld ?_
  simp only [List.getElem_toArray, List.getElem_cons_zero, Act.put, List.setIfInBounds_toArray, List.set_cons_zero, List.set_cons_succ]
  refine wpAnyH_take (i := 1) (v := .pointer (some ⟨g, 0, none⟩)) rfl (by kernel_rfl) (by kernel_rfl) (by kernel_rfl) (fun _ _ _ h => h) (Or.inl ⟨by rfl, fun W hW => by clear hW hHeld; go_simp⟩) hHeld ?_
  simp only [List.getElem_toArray, List.getElem_cons_zero, List.getElem_cons_succ, Act.put, List.setIfInBounds_toArray, List.set_cons_zero, List.set_cons_succ]
  refine wpAnyH_take (i := 2) rfl (by kernel_rfl) (by kernel_rfl) (by kernel_rfl) (fun _ _ _ h => h) (yieldsIf_load_mid (by rfl) _ _ rfl g 0 rfl v.cells _ (fun W hW => hW) Tryd.underlying25 rfl fr_info) hHeld ?_
  simp only [List.getElem_toArray, List.getElem_cons_zero, List.getElem_cons_succ, Act.put, List.setIfInBounds_toArray, List.set_cons_zero, List.set_cons_succ]
  refine wpAnyH_take (i := 3) (v := .slice (some ⟨g, 0, none⟩) n c6) rfl (by kernel_rfl) (by kernel_rfl) (by kernel_rfl) (fun _ _ _ h => h) (Or.inl ⟨by rfl, fun _ _ => rfl⟩) hHeld ?_
  simp only [List.getElem_toArray, List.getElem_cons_zero, List.getElem_cons_succ, Act.put, List.setIfInBounds_toArray, List.set_cons_zero, List.set_cons_succ]
  refine wpAnyH_take (i := 4) (v := .slice (some x2) (n - 1) (c6 - 1)) rfl (by kernel_rfl) (by kernel_rfl) (by kernel_rfl) (fun _ _ _ h => h) (Or.inl ⟨by rfl, fun W hW => by clear hW hHeld; go_simp⟩) hHeld ?_
  simp only [List.getElem_toArray, List.getElem_cons_zero, List.getElem_cons_succ, Act.put, List.setIfInBounds_toArray, List.set_cons_zero, List.set_cons_succ]
  refine wpAnyH_ready (rs := [5]) (by kernel_rfl) (by simp) ?_
  refine AllReadyH.cons rfl (fun K hK => ?_) AllReadyH.nil
  rw [if_pos (by rfl)]
  refine wp_store_fm (.tmp 2) (.tmp 25) rfl w.heap.size zV v rfl rfl HM6.out ?_
  intro w8 hE8 hT8
  refine hK.out _ _ (range_tch hHeld hT8 (by simp; omega)) (fun hHeld8 => ?_)
  clear hK K
  simp only [List.getElem_toArray, List.getElem_cons_zero, List.getElem_cons_succ, Act.put]
  refine wpAnyH_take (i := 6) (v := .slice (some x2) (n - 1) (c6 - 1)) rfl (by kernel_rfl) (by kernel_rfl) (by kernel_rfl) (fun _ _ _ h => h) (Or.inl ⟨by rfl, fun _ _ => rfl⟩) hHeld8 ?_
  simp only [List.getElem_toArray, List.getElem_cons_zero, List.getElem_cons_succ, Act.put, List.setIfInBounds_toArray, List.set_cons_zero, List.set_cons_succ]
  refine wpAnyH_take (i := 7) (v := .int .i64 0) rfl (by kernel_rfl) (by kernel_rfl) (by kernel_rfl) (fun _ _ _ h => h) (Or.inl ⟨by rfl, fun _ _ => rfl⟩) hHeld8 ?_
  simp only [List.getElem_toArray, List.getElem_cons_zero, List.getElem_cons_succ, Act.put, List.setIfInBounds_toArray, List.set_cons_zero, List.set_cons_succ]
  refine wpAnyH_done (by kernel_rfl) ?_ _
  go_wp2_with fail
  refine bodyPost_ret (tk_results _ _ w.heap.size _ _ _ rfl rfl rfl hE8) rfl ?_
  have hb8 : Below w.heap.size w w8 := Tch.below (HB6.out.trans (show Below w.heap.size w6 w6.drew from ⟨rfl, rfl, rfl, Nat.le_refl _, fun _ _ => rfl⟩)) hT8 (by simp) (Nat.le_refl _)
  exact ⟨v, x2, _, _, rfl, HFM.out, isBytes_tchO (w := w6.drew) HYV.out hT8 (fun y hy => HFR.out v (by simp) y hy), IsFrames.tch (w := w6.drew) ⟨HFd.out.len, HFd.out.le, HFd.out.max, HFd.out.none, HFd.out.cell, HFd.out.bytes⟩ hT8 (fun y hy => by cases hy; rw [HXB.out]; simp; omega) (fun u hu y hy => HFR.out u (List.mem_cons_of_mem _ hu) y hy), hb8⟩
end Bw
end Go.Proofs.YthdffdobkampaaaDoor
