/- What queue.lineOf answers: a queue as a line, or what is wrong with it. -/
import Derived.Test.YthdffdobkampaaaDoorQFrames
import Derived.Test.YthdffdobkampaaaDoorFrNamed
import Derived.Test.YthdffdobkampaaaDoorQMath
import Derived.Laws.ResultCell
namespace Go.Proofs.YthdffdobkampaaaDoor
open Go.ChangeShapes Go.WideShapes Go.ChangeAt Go.RowKit
namespace Bw
open Bm Cm
/-- the first k of a queue in a line -/
def padA (l : List FrV) (k : Nat) : List Ent := (l.take k).map entOf ++ List.replicate (32 - k) zE
theorem padA_len (l : List FrV) (k : Nat) (h : k ≤ l.length) (h2 : k ≤ 32) : (padA l k).length = 32 := by
  unfold padA
  rw [List.length_append, List.length_map, List.length_take, List.length_replicate]; omega
theorem padA_set (l : List FrV) (k : Nat) (h : k < l.length) (h2 : k < 32) : (padA l k).set k (entOf l[k]) = padA l (k + 1) := by
  unfold padA
  have hl : ((l.take k).map entOf).length = k := by rw [List.length_map, List.length_take]; omega
  rw [List.set_append_right _ _ (by omega), hl, Nat.sub_self, List.take_succ_eq_append_getElem h, List.map_append]
  obtain ⟨q, hq⟩ : ∃ q, 32 - k = q + 1 := ⟨31 - k, by omega⟩
  have hq2 : 32 - (k + 1) = q := by omega
  rw [hq, hq2, List.replicate_succ, List.set_cons_zero, List.append_assoc]
  rfl
theorem padA_name (l : List FrV) (k j : Nat) (hj : j < k) (h : k ≤ l.length) (h2 : k ≤ 32) : (padA l k)[j]'(by rw [padA_len l k h h2]; omega) = entOf (l[j]'(by omega)) := by
  unfold padA
  rw [List.getElem_append_left (by rw [List.length_map, List.length_take]; omega), List.getElem_map, List.getElem_take]
theorem padA_zero (l : List FrV) : padA l 0 = List.replicate 32 zE := rfl
theorem line_results {fn : Func} {p u : Tmp} (hr : fn.results = #[.cell p 55, .tmp u]) (tmps : Array Value) (w : World) (b : Nat) (A : List Ent) (n : Int) (y : Value) (hp : tmps.getD p undef = .pointer (some ⟨b, 0, none⟩)) (hy : tmps.getD u undef = y) (h : LnAt w b A n) :
    (results fn tmps).run Tryd.prog w = .ok (.tuple #[.agg (lnC A n).toArray, y]) w := by
  have hl := run_loadVar_row (P := Tryd.prog) w b 55 55 _ (0, 0) _ h.row Tryd.underlying55 rfl (by rw [line_info, lnC_arr _ _ h.len])
  have hp' : tmps[p]?.getD undef = .pointer (some ⟨b, 0, none⟩) := by simpa using hp
  have hy' : tmps[u]?.getD undef = y := by simpa using hy
  simp [results, hr, hp', hy', asAddr, hl]
theorem wpl_store_zero {ops : Array Oper} {rest : List Oper} {dst : Option Tmp} {ty : TypeId} {pos : String} {aft : Array Edge} {a : Act} {w : World} {Q : Exit → Act → World → Prop} (x y : Operand) (b : Nat) (A : List Ent) (n : Int) (hx : a.eval x = .pointer (some ⟨b, 0, none⟩)) (hy : a.eval y = .agg Tryd.zeroCells55) (hL : LnAt w b A n)
    (h : ∀ w', LnAt w' b (List.replicate 32 zE) 0 → Tch [b] w w' → wpList Tryd.prog ops Q rest (a.put dst undef) w') :
    wpList Tryd.prog ops Q (Oper.mk dst (.store 55 x y) ty pos aft none :: rest) a w :=
  wpl_store_line x y b A _ n 0 hx (by rw [hy, zero_line]) hL (by simp) h
def lineL (l : List FrV) : List Value := if chkQ (l.map (·.f)) = 0 then lnC (padA l l.length) l.length else lnC (List.replicate 32 zE) 0
theorem add_nextQ (x : Addr) (m j : Nat) : x.add (m + (j + 1)) = ⟨(x.add m).block, (x.add m).off + (j + 1), none⟩ := by
  unfold Addr.add
  by_cases h : m = 0
  · subst h; simp
  · simp [h]; omega
theorem map_f (l : List FrV) (k : Nat) (h : k < l.length) : (l.map (·.f)).getD k ⟨0, false, false, false, 0, []⟩ = l[k].f := by simp [List.getD, h]
set_option maxHeartbeats 4000000 in
set_option maxRecDepth 100000 in
theorem lineOf_many (a : Option Addr) (n cap : Nat) (l : List FrV) (w : World) (hF : IsFrames w a n cap l) (hm : 16 < n) :
    Calls Tryd.prog 31 #[.slice a n cap] w fun e w' => e = .returned (.tuple #[.agg (lineL l).toArray, .int .i64 (chkQ (l.map (·.f)))]) ∧ Below w.heap.size w w' := by
  have hc : chkQ (l.map (·.f)) = 2 := by unfold chkQ; rw [if_pos (by rw [List.length_map, hF.len]; exact hm)]
  have hll : lineL l = lnC (List.replicate 32 zE) 0 := by unfold lineL; rw [if_neg (by rw [hc]; decide)]
  rw [hc, hll]
  have hmx : n ≤ maxLen := Nat.le_trans hF.le hF.max
  have hL0 := LnAt.new w (List.replicate 32 zE) 0 (by simp)
  have hB0 : Below w.heap.size w (w.alloc (lnO (List.replicate 32 zE) 0)) := (Below.refl _ _).alloc (Nat.le_refl _) _
  unfold lnO at hL0 hB0
  rw [← zero_line] at hL0 hB0
  have K0 := Hid.mk hL0
  have KB := Hid.mk hB0
  have hm' : (16 : Int) < (n : Int) := by omega
  clear hL0 hB0 hF hc hll
  go_enter Tryd.func31, Tryd.ntmps31
  go_wp2_with (first | ((with_reducible_and_instances refine wpl_store_zero (.tmp 2) (.tmp 12) w.heap.size (List.replicate 32 zE) 0 ?_ ?_ K0.out ?_); rfl; rfl; intro w5 hL5 hT5))
  refine bodyPost_ret (line_results rfl _ _ w.heap.size _ _ _ rfl rfl hL5) rfl ?_
  exact ⟨rfl, Tch.below KB.out hT5 (by simp) (Nat.le_refl _)⟩
set_option maxHeartbeats 8000000 in
set_option maxRecDepth 100000 in
theorem lineOf_few (a : Option Addr) (n cap : Nat) (l : List FrV) (w : World) (hS : SizesAt w) (hF : IsFrames w a n cap l) (hm : n ≤ 16) :
    Calls Tryd.prog 31 #[.slice a n cap] w fun e w' => e = .returned (.tuple #[.agg (lineL l).toArray, .int .i64 (chkQ (l.map (·.f)))]) ∧ Below w.heap.size w w' := by
  have hc : chkQ (l.map (·.f)) = chkK (l.map (·.f)) n := by unfold chkQ; rw [if_neg (by rw [List.length_map, hF.len]; omega), List.length_map, hF.len]
  have hmx : n ≤ maxLen := Nat.le_trans hF.le hF.max
  have hL0 := LnAt.new w (List.replicate 32 zE) 0 (by simp)
  have hB0 : Below w.heap.size w (w.alloc (lnO (List.replicate 32 zE) 0)) := (Below.refl _ _).alloc (Nat.le_refl _) _
  have hL1 := LnAt.new (w.alloc (lnO (List.replicate 32 zE) 0)) (List.replicate 32 zE) 0 (by simp)
  have hB1 : Below (w.alloc (lnO (List.replicate 32 zE) 0)).heap.size (w.alloc (lnO (List.replicate 32 zE) 0)) ((w.alloc (lnO (List.replicate 32 zE) 0)).alloc (lnO (List.replicate 32 zE) 0)) := (Below.refl _ _).alloc (Nat.le_refl _) _
  have hs1 : (w.alloc (lnO (List.replicate 32 zE) 0)).heap.size = w.heap.size + 1 := by simp
  have k0 := hL0.kept hB1
  have kb := bl2 hB0 hB1
  rw [hs1] at hL1
  unfold lnO at k0 hL1 kb
  rw [← zero_line] at k0 hL1 kb
  have K0 := Hid.mk k0
  have K1 := Hid.mk hL1
  have KB := Hid.mk kb
  have hm' : ¬ (16 : Int) < (n : Int) := by omega
  have HF := Hid.mk hF
  have HS := Hid.mk hS
  have HC := Hid.mk hc
  clear hL0 hB0 hF hc hS hL1 hB1 hs1 k0 kb
  go_enter Tryd.func31, Tryd.ntmps31
  go_wp2_with fail
  go_loopw [15] (fun i wr => ∃ (k : Nat), k ≤ n ∧ i = .int .i64 k ∧ Hid (chkK (l.map (·.f)) k = 0) ∧ Hid (LnAt wr w.heap.size (List.replicate 32 zE) 0) ∧ Hid (LnAt wr (w.heap.size + 1) (padA l k) 0) ∧ Hid (Below w.heap.size w wr)) (fun i _ => n - (intOf i).toNat)
  case atStart => exact ⟨0, Nat.zero_le _, rfl, Hid.mk rfl, K0, K1, KB⟩
  case round =>
    obtain ⟨k, hk, rfl, HZ, HL0, HL1, HB⟩ := hrel
    by_cases hlt : k < n
    · have hlt' : (k : Int) < (n : Int) := by omega
      have hkl : k < l.length := by rw [HF.out.len]; exact hlt
      cases a with
      | none => exact absurd (HF.out.none rfl) (by omega)
      | some x =>
        have cc := fun (j : Nat) (hj : j < 6) => cell_kept HB.out (HF.out.cell x rfl k hkl j hj)
        have hby := isBytes_below (HF.out.bytes k hkl) (show Below w.heap.size w wr from HB.out)
        have hstep := chkK_next HZ.out
        have hst : stepQ (l.map (·.f)) k = if frE l[k].f ≠ 0 then frE l[k].f else if 0 < k ∧ Op.bytesLess (nameL l[k].f) (nameL ((l.map (·.f)).getD (k - 1) ⟨0, false, false, false, 0, []⟩)) = true then 4 else 0 := by
          unfold stepQ; rw [map_f l k hkl]
        have hset := padA_set l k hkl (by omega)
        have hkA : k < (padA l k).length := by rw [padA_len l k (by omega) (by omega)]; omega
        have hbad : chkK (l.map (·.f)) (k + 1) ≠ 0 → chkQ (l.map (·.f)) = chkK (l.map (·.f)) (k + 1) ∧ lineL l = lnC (List.replicate 32 zE) 0 := by
          intro h
          have e1 : chkQ (l.map (·.f)) = chkK (l.map (·.f)) (k + 1) := by rw [HC.out]; exact chkK_stop h n (by omega)
          exact ⟨e1, by unfold lineL; rw [if_neg (by rw [e1]; exact h)]⟩
        rw [hstep] at hbad
        have HBAD := Hid.mk hbad
        have HST := Hid.mk hst
        have HSTEP := Hid.mk hstep
        have HSET := Hid.mk hset
        have hprev : 0 < k → wr.cell? ⟨w.heap.size + 1, (k - 1) * 7, none⟩ = some (.string ⟨(nameL ((l.map (·.f)).getD (k - 1) ⟨0, false, false, false, 0, []⟩)).toArray⟩) := by
          intro h0
          refine (show wr.cell? ⟨w.heap.size + 1, (k - 1) * 7 + 0, none⟩ = _ from ?_)
          rw [HL1.out.cell (k - 1) 0 (by omega) (by omega), padA_name l k (k - 1) (by omega) (by omega) (by omega), map_f l (k - 1) (by omega)]
          rfl
        have HPREV := Hid.mk hprev
        clear hbad hst hstep hset hprev
        generalize hfk : l[k] = v at *
        obtain ⟨⟨id, lo, fa, re, sz, dt⟩, va, vl, vc⟩ := v
        have c0 := cc 0 (by omega)
        have c1 := cc 1 (by omega)
        have c2 := cc 2 (by omega)
        have c3 := cc 3 (by omega)
        have c4 := cc 4 (by omega)
        have c5 := cc 5 (by omega)
        rw [add_nextQ] at c1 c2 c3 c4 c5
        rw [Nat.add_zero] at c0
        simp only [FrV.cells, List.getElem_cons_zero, List.getElem_cons_succ, Nat.reduceAdd] at c0 c1 c2 c3 c4 c5
        simp only at hby
        have hbx := below_box wr id lo fa re sz va vl vc
        have hB2 := bl2 HB.out hbx
        have hnm := frName_any ⟨id, lo, fa, re, sz, dt⟩ va vl vc _ (HS.out.kept hB2) (Nat.le_trans hby.2.1 hby.2.2.1) hby.1
        have HK := Hid.mk (FrAt.box wr id lo fa re sz va vl vc)
        have HBX := Hid.mk hbx
        have HB2 := Hid.mk hB2
        unfold nameA at hnm
        simp only at hnm
        unfold frameV at hnm
        have HNM := Hid.mk hnm
        unfold frameC at HNM HK HBX HB2
        clear cc hby hbx hB2 hnm
        by_cases hE : frE ⟨id, lo, fa, re, sz, dt⟩ = 0
        · rw [if_pos hE] at HNM
          rw [if_neg (show ¬ frE ⟨id, lo, fa, re, sz, dt⟩ ≠ 0 from fun h => h hE)] at HST
          obtain ⟨nm, hnmv⟩ : ∃ nm, nm = nameL ⟨id, lo, fa, re, sz, dt⟩ := ⟨_, rfl⟩
          rw [← hnmv] at HNM HST
          have HNV := Hid.mk hnmv
          clear hnmv
          go_wp2_with fail
          refine HNM.out.mono ?_
          rintro e w1 ⟨rfl, hb1⟩
          have hb01 := bl2 HBX.out hb1
          obtain ⟨k0, k1, k2, k3, k4, k5⟩ := HK.out.kept hb1
          have HB3 := Hid.mk (bl2 HB2.out hb1)
          have HL0b := Hid.mk (HL0.out.kept hb01)
          have HL1b := Hid.mk (HL1.out.kept hb01)
          have HPR := Hid.mk (fun h0 => cell_kept hb01 (HPREV.out h0))
          clear hb1 hb01 c0 c1 c2 c3 c4 c5
          by_cases h0 : 0 < k
          · have n2 := HPR.out h0
            have hk1 : ((k : Int) - 1) = ((k - 1 : Nat) : Int) := by omega
            have hd0 : decide ((0 : Int) < (k : Int)) = true := by simp; omega
            generalize nameL ((l.map (·.f)).getD (k - 1) ⟨0, false, false, false, 0, []⟩) = pn at *
            by_cases hl : Op.bytesLess nm pn = true
            · rw [if_pos ⟨h0, hl⟩] at HST
              have hh := HBAD.out (by rw [HST.out]; decide)
              have HH1 := Hid.mk (hh.1.trans HST.out)
              have HH2 := Hid.mk hh.2
              clear hh
              go_wp2_with (first | ((with_reducible_and_instances refine wpl_store_zero (.tmp 2) (.tmp 41) w.heap.size (List.replicate 32 zE) 0 ?_ ?_ HL0b.out ?_); rfl; rfl; intro w5 hL5 hT5))
              refine bodyPost_ret (line_results rfl _ _ w.heap.size _ _ _ rfl rfl hL5) rfl ?_
              exact ⟨by rw [HH1.out, HH2.out]; rfl, Tch.below HB3.out hT5 (by simp) (Nat.le_refl _)⟩
            · rw [if_neg (fun h => hl h.2)] at HST
              go_wp2_with (first | ((with_reducible_and_instances refine wpl_store_ent (.tmp 47) (.tmp 45) (w.heap.size + 1) (k * 7) k (padA l k) 0 ⟨nm, ⟨⟨id, lo, fa, re, sz, dt⟩, va, vl, vc⟩⟩ ?_ ?_ HL1b.out rfl hkA ?_); rfl; rfl; intro w5 hL5 hT5))
              have hE5 : (⟨nm, ⟨⟨id, lo, fa, re, sz, dt⟩, va, vl, vc⟩⟩ : Ent) = entOf ⟨⟨id, lo, fa, re, sz, dt⟩, va, vl, vc⟩ := by rw [HNV.out]; rfl
              rw [hE5, HSET.out] at hL5
              go_roundw
              case rel => exact ⟨k + 1, by omega, by go_num, Hid.mk (HSTEP.out.trans HST.out), Hid.mk (HL0b.out.tch hT5 (by simp)), Hid.mk hL5, Hid.mk (Tch.below HB3.out hT5 (by simp) (Nat.le_refl _))⟩
              case measure => simp [intOf]; omega
          · obtain rfl : k = 0 := by omega
            rw [if_neg (fun h => absurd h.1 (Nat.lt_irrefl _))] at HST
            go_wp2_with (first | ((with_reducible_and_instances refine wpl_store_ent (.tmp 47) (.tmp 45) (w.heap.size + 1) (0 * 7) 0 (padA l 0) 0 ⟨nm, ⟨⟨id, lo, fa, re, sz, dt⟩, va, vl, vc⟩⟩ ?_ ?_ HL1b.out rfl hkA ?_); rfl; rfl; intro w5 hL5 hT5))
            have hE5 : (⟨nm, ⟨⟨id, lo, fa, re, sz, dt⟩, va, vl, vc⟩⟩ : Ent) = entOf ⟨⟨id, lo, fa, re, sz, dt⟩, va, vl, vc⟩ := by rw [HNV.out]; rfl
            rw [hE5, HSET.out] at hL5
            go_roundw
            case rel => exact ⟨0 + 1, by omega, by go_num, Hid.mk (HSTEP.out.trans HST.out), Hid.mk (HL0b.out.tch hT5 (by simp)), Hid.mk hL5, Hid.mk (Tch.below HB3.out hT5 (by simp) (Nat.le_refl _))⟩
            case measure => simp [intOf]; omega
        · rw [if_neg hE] at HNM
          rw [if_pos hE] at HST
          have hne : (frE ⟨id, lo, fa, re, sz, dt⟩ != 0) = true := by simpa using hE
          have hh := HBAD.out (by rw [HST.out]; exact hE)
          have HH1 := Hid.mk (hh.1.trans HST.out)
          have HH2 := Hid.mk hh.2
          clear hh
          generalize frE ⟨id, lo, fa, re, sz, dt⟩ = ce at *
          go_wp2_with fail
          refine HNM.out.mono ?_
          rintro e w1 ⟨rfl, hb1⟩
          have hb01 := bl2 HBX.out hb1
          have HB3 := Hid.mk (bl2 HB2.out hb1)
          have HL0b := Hid.mk (HL0.out.kept hb01)
          clear hb1 hb01 c0 c1 c2 c3 c4 c5
          go_wp2_with (first | ((with_reducible_and_instances refine wpl_store_zero (.tmp 2) (.tmp 27) w.heap.size (List.replicate 32 zE) 0 ?_ ?_ HL0b.out ?_); rfl; rfl; intro w5 hL5 hT5))
          refine bodyPost_ret (line_results rfl _ _ w.heap.size _ _ _ rfl rfl hL5) rfl ?_
          exact ⟨by rw [HH1.out, HH2.out]; rfl, Tch.below HB3.out hT5 (by simp) (Nat.le_refl _)⟩
    · obtain rfl : k = n := by omega
      have c224 := HL1.out.size
      have z224 := HL1.out.frozen 224
      have HL2 := Hid.mk (HL1.out.setSize (k : Int))
      have HT2 := Hid.mk ((Tch.refl [w.heap.size + 1] wr).setK (g := w.heap.size + 1) (by simp) 224 (.int .i64 (k : Int)))
      have hfin : lineL l = lnC (padA l k) k := by
        unfold lineL
        rw [if_pos (by rw [HC.out]; exact HZ.out), HF.out.len]
      have HFIN := Hid.mk hfin
      have HQ := Hid.mk (HC.out.trans HZ.out)
      clear hfin
      go_wp2_with (first | ((with_reducible_and_instances refine wpl_load_line (.tmp 4) (w.heap.size + 1) _ _ ?_ HL2.out ?_); rfl) | ((with_reducible_and_instances refine wpl_store_line (.tmp 2) (.tmp 52) w.heap.size (List.replicate 32 zE) (padA l k) 0 (k : Int) ?_ ?_ (HL0.out.tch HT2.out (by simp)) HL2.out.len ?_); rfl; rfl; intro w7 hL7 hT7))
      refine bodyPost_ret (line_results rfl _ _ w.heap.size _ _ _ rfl rfl hL7) rfl ?_
      exact ⟨by rw [HQ.out, HFIN.out]; rfl, Tch.below (Tch.below HB.out HT2.out (by simp) (Nat.le_refl _)) hT7 (by simp) (Nat.le_refl _)⟩
theorem lineOf_any (a : Option Addr) (n cap : Nat) (l : List FrV) (w : World) (hS : SizesAt w) (hF : IsFrames w a n cap l) :
    Calls Tryd.prog 31 #[.slice a n cap] w fun e w' => e = .returned (.tuple #[.agg (lineL l).toArray, .int .i64 (chkQ (l.map (·.f)))]) ∧ Below w.heap.size w w' := by
  by_cases hm : n ≤ 16
  · exact lineOf_few a n cap l w hS hF hm
  · exact lineOf_many a n cap l w hF (by omega)
end Bw
end Go.Proofs.YthdffdobkampaaaDoor
