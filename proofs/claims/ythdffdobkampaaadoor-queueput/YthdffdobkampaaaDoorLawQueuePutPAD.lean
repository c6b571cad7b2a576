/- Joined out of our texts: QMerge, Queued, RefIs, QRef1, QInsert, FrameSized, FrClone, QInsert2, QPutRef, EqualB, RefSame. -/
import Derived.Test.YthdffdobkampaaaDoorLawQueuePutPAC
import Derived.Shelf.Spec.SlicesInsert
import Derived.Test.YthdffdobkampaaaDoorLawQueuePutPAA
import Derived.Test.YthdffdobkampaaaDoorLawQueuePutPAB
import Derived.Test.YthdffdobkampaaaDoorLawQueuePutRAE
import Derived.Test.YthdffdobkampaaaDoorBase8
import Derived.Test.YthdffdobkampaaaDoorLawQueuePutRAI
import Derived.Lib.QuietBelow
import Derived.Lib.AppendZerosOnto
import Derived.Test.YthdffdobkampaaaDoorFrameOpen
import Derived.SizedLaws
import Derived.Lib.SliceRun
import Derived.Deep.RegionHeld3
/- What queue.Merge answers. -/
namespace Go.Proofs.YthdffdobkampaaaDoor
open Go.ChangeShapes Go.WideShapes Go.ChangeAt Go.RowKit
namespace Bw
open Bm Cm
def mrgV (a b : List FrV) : List FrV := b.foldl putV a
theorem mrgV_f (b : List FrV) : ∀ a, (mrgV a b).map (·.f) = mrgF (a.map (·.f)) (b.map (·.f)) := by
  induction b with
  | nil => intro a; rfl
  | cons v b ih => intro a; show (mrgV (putV a v) b).map (·.f) = mrgF (putF (a.map (·.f)) v.f) (b.map (·.f)); rw [ih, putV_f]
theorem mrgV_len (b : List FrV) : ∀ a, (mrgV a b).length = a.length + b.length := by
  induction b with
  | nil => intro a; rfl
  | cons v b ih => intro a; show (mrgV (putV a v) b).length = _; rw [ih, putV_len, List.length_cons]; omega
theorem mrgV_mem (b : List FrV) : ∀ a y, y ∈ mrgV a b → y ∈ a ∨ y ∈ b := by
  induction b with
  | nil => intro a y h; exact .inl h
  | cons v b ih =>
    intro a y h
    rcases ih (putV a v) y h with h | h
    · rcases (insAt_mem a _ v y).1 h with h | h
      · exact .inr (List.mem_cons.2 (.inl h))
      · exact .inl h
    · exact .inr (List.mem_cons.2 (.inr h))
theorem mrgV_next (a b : List FrV) (k : Nat) (h : k < b.length) : mrgV a (b.take (k + 1)) = putV (mrgV a (b.take k)) b[k] := by
  unfold mrgV
  rw [List.take_succ_eq_append_getElem h, List.foldl_append]; rfl
/-- the line of two queues, k of the second one put in -/
def mgA (a b : List FrV) (k : Nat) : List Ent := (mrgV a (b.take k)).map entOf ++ List.replicate (32 - a.length - k) zE
theorem mgA_len (a b : List FrV) (k : Nat) (hk : k ≤ b.length) (h : a.length + k ≤ 32) : (mgA a b k).length = 32 := by
  unfold mgA
  rw [List.length_append, List.length_map, mrgV_len, List.length_take, List.length_replicate]; omega
theorem mgA_zero (a b : List FrV) : mgA a b 0 = padA a a.length := by
  unfold mgA padA
  rw [List.take_length]
  rfl
theorem with_mg (a b : List FrV) (k : Nat) (w : World) (hk : k < b.length) (ha : a.length ≤ 16) (hb : b.length ≤ 16) :
    Calls Tryd.prog 38 #[.agg (lnC (mgA a b k) ((a.length + k : Nat) : Int)).toArray, .agg (entOf b[k]).cells.toArray] w fun e w' => e = .returned (.agg (lnC (mgA a b (k + 1)) ((a.length + (k + 1) : Nat) : Int)).toArray) ∧ Below w.heap.size w w' := by
  have hl : (mrgV a (b.take k)).length = a.length + k := by rw [mrgV_len, List.length_take]; omega
  have h := with_line (mrgV a (b.take k)) (List.replicate (32 - a.length - k) zE) b[k] w (by rw [hl, List.length_replicate]; omega) (by rw [List.length_replicate]; omega)
  rw [← mrgV_next a b k hk, List.drop_replicate, hl, mrgV_len, List.length_take] at h
  have e1 : 32 - a.length - k - 1 = 32 - a.length - (k + 1) := by omega
  have e2 : a.length + min (k + 1) b.length = a.length + (k + 1) := by omega
  rw [e1, e2] at h
  exact h
theorem mg_end (a b : List FrV) : mgA a b b.length = (((mrgV a b).take 16).map entOf) ++ (((mrgV a b).drop 16).map entOf ++ List.replicate (32 - a.length - b.length) zE) := by
  unfold mgA
  rw [List.take_length, ← List.append_assoc, ← List.map_append, List.take_append_drop]
def mrgE (a b : List Fr) : Int := if chkQ a = 0 then chkQ b else chkQ a
set_option maxHeartbeats 1000000 in
set_option maxRecDepth 100000 in
theorem merge_bad (a : Option Addr) (n cap : Nat) (l : List FrV) (a' : Option Addr) (n' cap' : Nat) (l' : List FrV) (w : World) (hS : SizesAt w) (hF : IsFrames w a n cap l) (hF' : IsFrames w a' n' cap' l') (hq : mrgE (l.map (·.f)) (l'.map (·.f)) ≠ 0) :
    Calls Tryd.prog 21 #[.slice a n cap, .slice a' n' cap'] w fun e w' => e = .returned (.tuple #[.slice none 0 0, .int .i64 0, .int .i64 (mrgE (l.map (·.f)) (l'.map (·.f)))]) ∧ Below w.heap.size w w' := by
  have h1 := lineOf_any a n cap l w hS hF
  have h2 := fun W (hb : Below w.heap.size w W) => lineOf_any a' n' cap' l' W (hS.kept hb) (hF'.kept hb)
  obtain ⟨B, m, hB, hBl⟩ := lineL_shape l
  obtain ⟨B', m', hB', hBl'⟩ := lineL_shape l'
  rw [hB] at h1
  rw [hB'] at h2
  by_cases hc : chkQ (l.map (·.f)) = 0
  · have e0 : mrgE (l.map (·.f)) (l'.map (·.f)) = chkQ (l'.map (·.f)) := by unfold mrgE; rw [if_pos hc]
    rw [e0] at hq ⊢
    rw [hc] at h1
    have hne : (chkQ (l'.map (·.f)) != 0) = true := by simpa using hq
    generalize chkQ (l'.map (·.f)) = ce at *
    have H1 := Hid.mk h1
    have H2 := Hid.mk h2
    clear h1 h2 hS hF hF' hB hB' e0 hc
    go_enter Tryd.func21, Tryd.ntmps21
    go_wp2_with fail
    refine H1.out.mono ?_
    rintro e w1 ⟨rfl, hb1⟩
    have HB1 := Hid.mk hb1
    clear hb1
    go_wp2_with (first | ((with_reducible_and_instances refine wpl_store_line (.tmp 7) (.tmp 15) w1.heap.size (List.replicate 32 zE) B 0 m ?_ ?_ (LnAt.zero w1) hBl ?_); rfl; rfl; intro w5 hL5 hT5; have HB5 := Hid.mk (Tch.below (bl2 HB1.out (below_zero w1)) hT5 (by simp; exact HB1.out.size) (Nat.le_refl _)); clear hL5 hT5))
    refine (H2.out _ HB5.out).mono ?_
    rintro e w6 ⟨rfl, hb6⟩
    have HB6 := Hid.mk (bl2 HB5.out hb6)
    clear hb6
    go_wp2_with (first | ((with_reducible_and_instances refine wpl_store_line (.tmp 9) (.tmp 23) w6.heap.size (List.replicate 32 zE) B' 0 m' ?_ ?_ (LnAt.zero w6) hBl' ?_); rfl; rfl; intro w7 hL7 hT7; have HB7 := Hid.mk (Tch.below (bl2 HB6.out (below_zero w6)) hT7 (by simp; exact HB6.out.size) (Nat.le_refl _)); clear hL7 hT7))
    go_ret3
    exact ⟨rfl, HB7.out⟩
  · have e0 : mrgE (l.map (·.f)) (l'.map (·.f)) = chkQ (l.map (·.f)) := by unfold mrgE; rw [if_neg hc]
    rw [e0]
    have hne : (chkQ (l.map (·.f)) != 0) = true := by simpa using hc
    generalize chkQ (l.map (·.f)) = ce at *
    have H1 := Hid.mk h1
    clear h1 h2 hS hF hF' hB hB' e0 hc hq
    go_enter Tryd.func21, Tryd.ntmps21
    go_wp2_with fail
    refine H1.out.mono ?_
    rintro e w1 ⟨rfl, hb1⟩
    have HB1 := Hid.mk hb1
    clear hb1
    go_wp2_with (first | ((with_reducible_and_instances refine wpl_store_line (.tmp 7) (.tmp 15) w1.heap.size (List.replicate 32 zE) B 0 m ?_ ?_ (LnAt.zero w1) hBl ?_); rfl; rfl; intro w5 hL5 hT5; have HB5 := Hid.mk (Tch.below (bl2 HB1.out (below_zero w1)) hT5 (by simp; exact HB1.out.size) (Nat.le_refl _)); clear hL5 hT5))
    go_ret3
    exact ⟨rfl, HB5.out⟩
set_option maxHeartbeats 2000000 in
set_option maxRecDepth 100000 in
theorem merge_ok (a : Option Addr) (n cap : Nat) (l : List FrV) (a' : Option Addr) (n' cap' : Nat) (l' : List FrV) (w : World) (hS : SizesAt w) (hF : IsFrames w a n cap l) (hF' : IsFrames w a' n' cap' l') (hc : chkQ (l.map (·.f)) = 0) (hc' : chkQ (l'.map (·.f)) = 0) :
    Calls Tryd.prog 21 #[.slice a n cap, .slice a' n' cap'] w fun e w' => ∃ r l2, e = .returned (.tuple #[r, .int .i64 ((n + n' - 16 : Nat) : Int), .int .i64 0]) ∧ l2.map (·.f) = (mrgF (l.map (·.f)) (l'.map (·.f))).take 16 ∧ OwnFrs w' w.heap.size r l2 ∧ Below w.heap.size w w' := by
  obtain ⟨q1, q2, _⟩ := chk_ok hc
  obtain ⟨q1', q2', _⟩ := chk_ok hc'
  rw [List.length_map] at q1 q1'
  have hn := hF.len
  have hn' := hF'.len
  have h1 := lineOf_any a n cap l w hS hF
  have h2 := fun W (hb : Below w.heap.size w W) => lineOf_any a' n' cap' l' W (hS.kept hb) (hF'.kept hb)
  rw [hc, show lineL l = lnC (padA l l.length) l.length by unfold lineL; rw [if_pos hc]] at h1
  rw [hc', show lineL l' = lnC (padA l' l'.length) l'.length by unfold lineL; rw [if_pos hc']] at h2
  have hYa := hF.all
  have hYa' := hF'.all
  have hmem : ∀ u ∈ mrgV l l', u ∈ l ∨ u ∈ l' := mrgV_mem l' l
  have hmlen := mrgV_len l' l
  have hfo := fun W (hb : Below w.heap.size w W) => framesOf_any ((mrgV l l').take 16) (((mrgV l l').drop 16).map entOf ++ List.replicate (32 - l.length - l'.length) zE) W (by simp only [List.length_append, List.length_map, List.length_take, List.length_drop, List.length_replicate]; omega) (fun u hu => by
      rcases hmem u (List.mem_of_mem_take hu) with h | h
      · exact isBytes_below (hYa u h) hb
      · exact isBytes_below (hYa' u h) hb) (fun u hu => by
      rcases hmem u (List.mem_of_mem_take hu) with h | h
      · exact q2 _ (List.mem_map_of_mem h)
      · exact q2' _ (List.mem_map_of_mem h))
  rw [← mg_end] at hfo
  have htl : ((mrgV l l').take 16).length = n + n' - (n + n' - 16) := by rw [List.length_take, hmlen]; omega
  have htf : ((mrgV l l').take 16).map (·.f) = (mrgF (l.map (·.f)) (l'.map (·.f))).take 16 := by rw [List.map_take, mrgV_f]
  rw [htl, htf, hn'] at hfo
  have hwm := fun (k : Nat) (hk : k < l'.length) W => with_mg l l' k W hk q1 q1'
  have hp0 : (padA l l.length) = mgA l l' 0 := (mgA_zero l l').symm
  rw [hp0] at h1
  have hgl : ∀ k, k ≤ n' → (mgA l l' k).length = 32 := fun k hk => mgA_len l l' k (by omega) (by omega)
  have hpl : (padA l' n').length = 32 := padA_len l' n' (by omega) (by omega)
  have hpe : ∀ k (hk : k < l'.length) (hk2 : k < (padA l' n').length), (padA l' n')[k]'hk2 = entOf l'[k] := fun k hk _ => padA_name l' n' k (by omega) (by omega) (by omega)
  rw [hn] at h1
  rw [hn'] at h2
  simp only [hn] at hwm
  have HWM := Hid.mk hwm
  have HFO := Hid.mk hfo
  have H1 := Hid.mk h1
  have H2 := Hid.mk h2
  have HPE := Hid.mk hpe
  have HGL := Hid.mk hgl
  have HPL := Hid.mk hpl
  have q3 : n ≤ 16 := by omega
  have q4 : n' ≤ 16 := by omega
  have HL' := Hid.mk hn'
  clear hF hF' hS hc hc' q2 q2' h1 h2 hYa hYa' hmem hmlen hfo htl htf hwm hp0 hgl hpl hpe hn hn' q1 q1'
  go_enter Tryd.func21, Tryd.ntmps21
  go_wp2_with fail
  refine H1.out.mono ?_
  rintro e w1 ⟨rfl, hb1⟩
  have HB1 := Hid.mk hb1
  clear hb1
  go_wp2_with (first | ((with_reducible_and_instances refine wpl_store_line (.tmp 7) (.tmp 15) w1.heap.size (List.replicate 32 zE) (mgA l l' 0) 0 n ?_ ?_ (LnAt.zero w1) (HGL.out 0 (Nat.zero_le _)) ?_); rfl; rfl; intro w5 hL5 hT5; have HL5 := Hid.mk hL5; have HB5 := Hid.mk (Tch.below (bl2 HB1.out (below_zero w1)) hT5 (by simp; exact HB1.out.size) (Nat.le_refl _)); clear hL5 hT5))
  refine (H2.out _ HB5.out).mono ?_
  rintro e w6 ⟨rfl, hb6⟩
  have HB6 := Hid.mk (bl2 HB5.out hb6)
  have HL6 := Hid.mk (HL5.out.kept (bl2 hb6 (below_zero w6)))
  have hl16 : w1.heap.size < w6.heap.size := (HL5.out.kept hb6).lt
  have hlw : w.heap.size ≤ w1.heap.size := HB1.out.size
  clear hb6
  go_wp2_with (first | ((with_reducible_and_instances refine wpl_store_line (.tmp 9) (.tmp 23) w6.heap.size (List.replicate 32 zE) (padA l' n') 0 n' ?_ ?_ (LnAt.zero w6) HPL.out ?_); rfl; rfl; intro w7 hL7 hT7; have c7 := hL7.size; have HL7 := Hid.mk hL7; have HM7 := Hid.mk (HL6.out.tch hT7 (by simp; omega)); have HB7 := Hid.mk (Tch.below (bl2 HB6.out (below_zero w6)) hT7 (by simp; omega) (Nat.le_refl _)); clear hL7 hT7))
  go_loopw [30] (fun i wr => ∃ (k : Nat), k ≤ n' ∧ i = .int .i64 k ∧ Hid (LnAt wr w1.heap.size (mgA l l' k) ((n + k : Nat) : Int)) ∧ Hid (LnAt wr w6.heap.size (padA l' n') n') ∧ Hid (Below w.heap.size w wr)) (fun i _ => n' - (intOf i).toNat)
  case atStart => exact ⟨0, Nat.zero_le _, rfl, HM7, HL7, HB7⟩
  case round =>
    obtain ⟨k, hk, rfl, HL, HM, HB⟩ := hrel
    by_cases hlt : k < n'
    · have hlt' : (k : Int) < (n' : Int) := by omega
      have hkl : k < l'.length := by have := HL'.out; omega
      have hk0 : (0 : Int) ≤ (k : Int) := by omega
      have hk32 : (k : Int) < 32 := by omega
      have HWK := Hid.mk (fun W => HWM.out k hkl W)
      have hrng : ∀ W, LnAt W w6.heap.size (padA l' n') n' → W.rangeAt w6.heap.size (k * 7) (entOf l'[k]).cells := by
        intro W hW j u hj
        have hj7 : j < 7 := (List.getElem?_eq_some_iff.1 hj).1
        have := hW.cell k j (by omega) hj7
        rw [HPE.out k hkl _] at this
        rw [this]; exact hj
      have HRN := Hid.mk hrng
      clear hrng
      go_wp2_with fail
      refine wp_region_held_drew (S := fun W => LnAt W w6.heap.size (padA l' n') n') (by kernel_rfl) ⟨HM.out.len, HM.out.row⟩ (fun hHeld => ?_)
      refine wpAnyH_take (i := 1) (v := .int .i64 k) rfl (by kernel_rfl) (by kernel_rfl) (by kernel_rfl) (fun _ _ _ h => h) (Or.inl ⟨by rfl, fun _ _ => rfl⟩) hHeld ?_
      simp only [List.getElem_toArray, List.getElem_cons_zero, List.getElem_cons_succ, Act.put, List.setIfInBounds_toArray, List.set_cons_zero, List.set_cons_succ]
      refine wpAnyH_take (i := 2) (v := .pointer (some ⟨w6.heap.size, 0, none⟩)) rfl (by kernel_rfl) (by kernel_rfl) (by kernel_rfl) (fun _ _ _ h => h) (Or.inl ⟨by rfl, fun W hW => by clear hW hHeld; go_simp⟩) hHeld ?_
      simp only [List.getElem_toArray, List.getElem_cons_zero, List.getElem_cons_succ, Act.put, List.setIfInBounds_toArray, List.set_cons_zero, List.set_cons_succ]
      refine wpAnyH_take (i := 3) (v := .pointer (some ⟨w6.heap.size, k * 7, none⟩)) rfl (by kernel_rfl) (by kernel_rfl) (by kernel_rfl) (fun _ _ _ h => h) (Or.inl ⟨by rfl, fun W hW => by clear hW hHeld; go_simp⟩) hHeld ?_
      simp only [List.getElem_toArray, List.getElem_cons_zero, List.getElem_cons_succ, Act.put, List.setIfInBounds_toArray, List.set_cons_zero, List.set_cons_succ]
      refine wpAnyH_take (i := 4) rfl (by kernel_rfl) (by kernel_rfl) (by kernel_rfl) (fun _ _ _ h => h) (yieldsIf_load_mid (by rfl) _ _ rfl w6.heap.size (k * 7) rfl (entOf l'[k]).cells _ (fun W hW => HRN.out W hW) Tryd.underlying52 rfl ent_info) hHeld ?_
      simp only [List.getElem_toArray, List.getElem_cons_zero, List.getElem_cons_succ, Act.put, List.setIfInBounds_toArray, List.set_cons_zero, List.set_cons_succ]
      refine wpAnyH_ready (rs := [0]) (by kernel_rfl) (by simp) ?_
      refine AllReadyH.cons rfl (fun K hK => ?_) AllReadyH.nil
      rw [if_pos (by rfl)]
      refine wp_load_mid 55 (.tmp 7) rfl w1.heap.size 0 rfl (lnC (mgA l l' k) ((n + k : Nat) : Int)) _ (range_line (w := wr.drew) ⟨HL.out.len, HL.out.row⟩) Tryd.underlying55 rfl (by rw [line_info, lnC_len, HL.out.len]) ?_
      refine hK.out _ _ hHeld (fun hHeld1 => ?_)
      clear hK K
      simp only [List.getElem_toArray, List.getElem_cons_zero, Act.put, List.setIfInBounds_toArray, List.set_cons_zero, List.set_cons_succ]
      refine wpAnyH_ready (rs := [5]) (by kernel_rfl) (by simp) ?_
      refine AllReadyH.cons rfl (fun K hK => ?_) AllReadyH.nil
      rw [if_pos (by rfl)]
      generalize hD : (lnC (mgA l l' (k + 1)) ((n + (k + 1) : Nat) : Int)).toArray = D at *
      generalize hD0 : (lnC (mgA l l' k) ((n + k : Nat) : Int)).toArray = D0 at *
      generalize hD1 : (entOf l'[k]).cells.toArray = D1 at *
      go_wp2_with fail
      refine (HWK.out _).mono ?_
      rintro e w2 ⟨rfl, hb2⟩
      have HL2 := Hid.mk (LnAt.kept (w := wr.drew) ⟨HL.out.len, HL.out.row⟩ hb2)
      have HM2 := Hid.mk (LnAt.kept (w := wr.drew) ⟨HM.out.len, HM.out.row⟩ hb2)
      have HB2 := Hid.mk (bl2 (HB.out.trans (show Below w.heap.size wr wr.drew from ⟨rfl, rfl, rfl, Nat.le_refl _, fun _ _ => rfl⟩)) hb2)
      clear hb2
      refine hK.out _ _ HM2.out (fun hHeld2 => ?_)
      clear hK K
      refine wpAnyH_ready (rs := [6]) (by kernel_rfl) (by simp) ?_
      refine AllReadyH.cons rfl (fun K hK => ?_) AllReadyH.nil
      rw [if_pos (by rfl)]
      refine wp_store_line (.tmp 7) (.tmp 38) rfl w1.heap.size (mgA l l' k) (mgA l l' (k + 1)) ((n + k : Nat) : Int) ((n + (k + 1) : Nat) : Int) rfl (by rw [hD]; rfl) HL2.out (HGL.out (k + 1) (by omega)) ?_
      intro w8 hL8 hT8
      refine hK.out _ _ (hHeld2.tch hT8 (by simp; omega)) (fun hHeld8 => ?_)
      clear hK K
      simp only [List.getElem_toArray, List.getElem_cons_zero, List.getElem_cons_succ, Act.put]
      refine wpAnyH_done (by kernel_rfl) ?_ _
      go_wp2_with fail
      go_roundw
      case rel => exact ⟨k + 1, by omega, by go_num, Hid.mk hL8, Hid.mk hHeld8, Hid.mk (Tch.below HB2.out hT8 (by simp; omega) (Nat.le_refl _))⟩
      case measure => simp [intOf]; omega
    · obtain rfl : k = n' := by omega
      have c8 := HL.out.size
      have z8 := HL.out.frozen 224
      obtain ⟨s, hs⟩ : ∃ s, s = n + k := ⟨_, rfl⟩
      rw [← hs] at c8 HFO HL
      have HSS := Hid.mk hs
      have hs32 : s ≤ 32 := by omega
      clear hs
      by_cases h16 : 16 ≤ s
      · have e1 : ((s - (s - 16) : Nat) : Int) = (s : Int) - ((s : Int) - 16) := by omega
        have e2 : (s : Int) - 16 = ((n + k - 16 : Nat) : Int) := by have := HSS.out; omega
        have HE2 := Hid.mk e2
        have hnl : ¬ ((s : Int) - 16 < 0) := by omega
        have hnl2 : (0 : Int) ≤ (s : Int) - 16 := by omega
        have hmx : max ((s : Int) - 16) 0 = (s : Int) - 16 := by omega
        rw [e1] at HFO
        clear e1 e2
        have HL9 := Hid.mk (HL.out.setSize ((s : Int) - ((s : Int) - 16)))
        have HT9 := Hid.mk ((Tch.refl [w1.heap.size] wr).setK (g := w1.heap.size) (by simp) 224 (.int .i64 ((s : Int) - ((s : Int) - 16))))
        have HB9 := Hid.mk (Tch.below HB.out HT9.out (by simp; omega) (Nat.le_refl _))
        go_wp2_with (first | ((with_reducible_and_instances refine wpl_load_line (.tmp 7) w1.heap.size (mgA l l' k) ((s : Int) - ((s : Int) - 16)) ?_ HL9.out ?_); rfl))
        refine (HFO.out _ HB9.out).mono ?_
        rintro e w9 ⟨r, l2, rfl, hf, ho, hb9⟩
        go_wp2_with fail
        go_ret3
        exact ⟨r, l2, by rw [← HE2.out]; rfl, hf, ho.mono HB9.out.size, bl2 HB9.out hb9⟩
      · have e1 : ((s - (s - 16) : Nat) : Int) = (s : Int) := by omega
        have e2 : (0 : Int) = ((n + k - 16 : Nat) : Int) := by have := HSS.out; omega
        have HE2 := Hid.mk e2
        have hgt : (s : Int) - 16 < 0 := by omega
        have hgt2 : ¬ (0 : Int) ≤ (s : Int) - 16 := by omega
        have hmx : max ((s : Int) - 16) 0 = 0 := by omega
        rw [e1] at HFO
        clear e1 e2
        have HL9 := Hid.mk (HL.out.setSize ((s : Int)))
        have HT9 := Hid.mk ((Tch.refl [w1.heap.size] wr).setK (g := w1.heap.size) (by simp) 224 (.int .i64 ((s : Int))))
        have HB9 := Hid.mk (Tch.below HB.out HT9.out (by simp; omega) (Nat.le_refl _))
        go_wp2_with (first | ((with_reducible_and_instances refine wpl_load_line (.tmp 7) w1.heap.size (mgA l l' k) ((s : Int)) ?_ HL9.out ?_); rfl))
        refine (HFO.out _ HB9.out).mono ?_
        rintro e w9 ⟨r, l2, rfl, hf, ho, hb9⟩
        go_wp2_with fail
        go_ret3
        exact ⟨r, l2, by rw [← HE2.out]; rfl, hf, ho.mono HB9.out.size, bl2 HB9.out hb9⟩
end Bw
end Go.Proofs.YthdffdobkampaaaDoor

/- The closed fact that each law of queues asks for: two frames, put and taken. -/
namespace Go.Proofs.YthdffdobkampaaaDoor
open Go.ChangeShapes Go.WideShapes Go.ChangeAt Go.RowKit
namespace Bw
open Bm Cm
def fq (i : Int) : Fr := ⟨i, false, false, false, 0, []⟩
def vq (i : Int) : FrV := ⟨fq i, none, 0, 0⟩
theorem queued_put : putE [vq 5] (fq 3) = 0 := by decide +kernel
theorem queued_two : (putF [fq 5] (fq 3)).map (·.id) = [3, 5] := by decide +kernel
theorem queued_len : (putF [fq 5] (fq 3)).length = 2 := by decide +kernel
theorem queued_chk : chkQ (putF [fq 5] (fq 3)) = 0 := by decide +kernel
theorem nilBytesQ (w : World) : IsBytes w none 0 0 [] := ⟨rfl, Nat.le_refl _, Nat.zero_le _, fun _ => rfl, fun x hx => by cases hx⟩
theorem one_frame (w : World) (v : FrV) (hv : IsBytes w v.a v.len v.cap v.f.dt) : IsFrames (w.alloc (.cells v.cells.toArray 25)) (some ⟨w.heap.size, 0, none⟩) 1 1 [v] := by
  refine ⟨rfl, Nat.le_refl _, by unfold maxLen; decide, (fun h => by cases h), ?_, ?_⟩
  · intro x hx i hi k hk
    cases hx
    have hi0 : i = 0 := by simp at hi; exact hi
    subst hi0
    have e : (Addr.add ⟨w.heap.size, 0, none⟩ (0 * 6 + k)) = ⟨w.heap.size, 0 + (0 * 6 + k), none⟩ := Addr.add_mid _ _ _
    rw [e, Nat.zero_mul, Nat.zero_add, Nat.zero_add, cell_of_row _ _ k _ _ _ (heap_alloc_new w _), List.getElem?_toArray]
    exact List.getElem?_eq_getElem (show k < v.cells.length from hk)
  · intro i hi
    have hi0 : i = 0 := by simp at hi; exact hi
    subst hi0
    exact isBytes_below hv ((Below.refl _ _).alloc (Nat.le_refl _) _)
set_option maxHeartbeats 1000000 in
set_option maxRecDepth 100000 in
theorem queued_any (w : World) (hS : SizesAt w) :
    Calls Tryd.prog 12 #[] w fun e w' => e = .returned (.bool true) ∧ Below w.heap.size w w' := by
  have hb0 : Below w.heap.size w (w.alloc (.cells (vq 5).cells.toArray 25)) := (Below.refl _ _).alloc (Nat.le_refl _) _
  have h1 := Put_any (some ⟨w.heap.size, 0, none⟩) 1 1 [vq 5] (vq 3) _ (hS.kept hb0) (one_frame w (vq 5) (nilBytesQ w)) (nilBytesQ _)
  have e1 : putE [vq 5] (vq 3).f = 0 := queued_put
  rw [e1] at h1
  have H1 := Hid.mk h1
  have HB0 := Hid.mk hb0
  have HS := Hid.mk hS
  unfold frameV at H1
  clear h1 e1 hb0 hS
  go_enter Tryd.func12, Tryd.ntmps12
  go_wp2_with fail
  refine H1.out.mono ?_
  rintro e w1 ⟨r, l1, rfl, ho, hf, -, hb1⟩
  have hf := hf trivial
  have hb01 := bl2 HB0.out hb1
  obtain ⟨a1, c1, rfl, hF1⟩ := ho.frames
  have hf' : l1.map (·.f) = putF [fq 5] (fq 3) := hf
  have hl1 : l1.length = 2 := by have := congrArg List.length hf'; rw [List.length_map, queued_len] at this; exact this
  rw [hl1] at hF1 ⊢
  have h2 := take_ok a1 2 c1 l1 w1 (HS.out.kept hb01) hF1 (by rw [hf']; exact queued_chk) (by decide)
  have H2 := Hid.mk h2
  have HB1 := Hid.mk hb01
  have hid : l1.map (fun v => v.f.id) = [3, 5] := by
    have := congrArg (List.map (·.id)) hf'
    rw [List.map_map, queued_two] at this
    exact this
  have HID := Hid.mk hid
  clear h2 hb1 hb01 ho hf hf' hF1 H1 hid
  go_wp2_with fail
  refine H2.out.mono ?_
  rintro e w2 ⟨v, x, c, l2, rfl, hfl, hY2, hF2, hb2⟩
  have hids : v.f.id :: l2.map (fun u => u.f.id) = [3, 5] := by
    have := congrArg (List.map (·.id)) hfl
    rw [List.map_map, List.map_cons, List.map_map] at this
    exact this.trans HID.out
  obtain ⟨⟨id, lo, fa, re, sz, dt⟩, va, vl, vc⟩ := v
  have hid3 : id = 3 := by injection hids
  have hid5 : l2.map (fun u => u.f.id) = [5] := by injection hids
  subst hid3
  have hx0 : w2.cell? x = some (.int .i64 5) := by
    have hl2 : l2.length = 1 := hF2.len
    have h3 := hF2.cell x rfl 0 (by omega) 0 (by decide)
    have h4 : (l2[0]'(by omega)).f.id = 5 := by
      have h5 : (l2.map (fun u => u.f.id))[0]? = some 5 := by rw [hid5]; rfl
      rw [List.getElem?_map, List.getElem?_eq_getElem (by omega)] at h5
      exact Option.some.inj h5
    have ex : x.add (0 * 6 + 0) = x := by unfold Addr.add; simp
    rw [ex] at h3
    rw [h3, ← h4]; rfl
  have HB2 := Hid.mk (bl2 HB1.out hb2)
  have hbx := below_box w2 3 lo fa re sz va vl vc
  have hx1 := cell_kept hbx hx0
  have HBX := Hid.mk hbx
  unfold frameC at hx1 HBX
  clear hfl hY2 hF2 hb2 hids hid5 hx0 H2 hbx
  simp only [FrV.cells]
  go_wp2_with fail
  go_ret
  exact ⟨rfl, bl2 HB2.out HBX.out⟩
end Bw
end Go.Proofs.YthdffdobkampaaaDoor

/- What the document's own CheckFrame answers of a frame that lies in memory, as a premise. -/
namespace Go.Proofs.YthdffdobkampaaaDoor
open Go.ChangeShapes Go.WideShapes Go.ChangeAt Go.RowKit
namespace Bw
open Bm Cm
def CheckF : Prop := ∀ (id : Int) (lo fa re : Bool) (sz : Int) (a : Option Addr) (len cap : Nat) (w : World), len ≤ 9223372036854775807 →
    Calls Tryd.prog 17 #[frameV id lo fa re sz a len cap] w fun e w' => e = .returned (.int .i64 (frEn id lo fa re sz len)) ∧ Below w.heap.size w w'
theorem CheckF.fr (h : CheckF) (f : Fr) (a : Option Addr) (len cap : Nat) (w : World) (hy : IsBytes w a len cap f.dt) :
    Calls Tryd.prog 17 #[frameV f.id f.lo f.fa f.re f.sz a len cap] w fun e w' => e = .returned (.int .i64 (frE f)) ∧ Below w.heap.size w w' := by
  have h1 : len ≤ maxLen := Nat.le_trans hy.2.1 hy.2.2.1
  have h2 := h f.id f.lo f.fa f.re f.sz a len cap w (by unfold maxLen at h1; omega)
  have e : frEn f.id f.lo f.fa f.re f.sz len = frE f := by unfold frE; rw [hy.1]
  rw [e] at h2
  exact h2
end Bw
end Go.Proofs.YthdffdobkampaaaDoor

/- What the document's own CheckQueue answers. -/
namespace Go.Proofs.YthdffdobkampaaaDoor
open Go.ChangeShapes Go.WideShapes Go.ChangeAt Go.RowKit
namespace Bw
open Bm Cm Go.Sort
theorem FrAt.regrownQ {w : World} {g : Nat} {id : Int} {lo fa re : Bool} {sz : Int} {a : Option Addr} {len cap : Nat} (h : FrAt w g id lo fa re sz a len cap) (d : Nat) (os : Array Obj) : FrAt (grow (redrawn w d) os) g id lo fa re sz a len cap := h.kept (below_regrown w d os)
theorem cell_reg {w : World} {x : Addr} {v : Value} (h : w.cell? x = some v) (d : Nat) (os : Array Obj) : (grow (redrawn w d) os).cell? x = some v := cell_kept (below_regrown w d os) h
set_option maxHeartbeats 2000000 in
set_option maxRecDepth 100000 in
theorem checkQueue_any (hCF : CheckF) (a : Option Addr) (n cap : Nat) (l : List FrV) (w : World) (hD : w.cell? ⟨4, 1, none⟩ = some (.int .u8 1)) (hF : IsFrames w a n cap l) :
    Calls Tryd.prog 11 #[.slice a n cap] w fun e w' => e = .returned (.int .i64 (chkQ (l.map (·.f)))) ∧ Below w.heap.size w w' := by
  have hmx : n ≤ maxLen := Nat.le_trans hF.le hF.max
  by_cases hm : 16 < n
  · have hc : chkQ (l.map (·.f)) = 2 := by unfold chkQ; rw [if_pos (by rw [List.length_map, hF.len]; exact hm)]
    rw [hc]
    have hm' : (16 : Int) < (n : Int) := by omega
    clear hF hc hD hCF
    go_enter Tryd.func11, Tryd.ntmps11
    go_wp2_with fail
    go_ret
    exact ⟨rfl, Below.refl _ _⟩
  · have hc : chkQ (l.map (·.f)) = chkK (l.map (·.f)) n := by unfold chkQ; rw [if_neg (by rw [List.length_map, hF.len]; omega), List.length_map, hF.len]
    have hm' : ¬ (16 : Int) < (n : Int) := by omega
    have HF := Hid.mk hF
    have HC := Hid.mk hc
    have HD := Hid.mk hD
    have HCF := Hid.mk hCF
    clear hF hc hD hCF
    go_enter Tryd.func11, Tryd.ntmps11
    go_wp2_with fail
    go_loopw [11] (fun i wr => ∃ (k : Nat), k ≤ n ∧ i = .int .i64 k ∧ Hid (chkK (l.map (·.f)) k = 0) ∧ Hid (Below w.heap.size w wr)) (fun i _ => n - (intOf i).toNat)
    case atStart => exact ⟨0, Nat.zero_le _, rfl, Hid.mk rfl, Hid.mk (Below.refl _ _)⟩
    case round =>
      obtain ⟨k, hk, rfl, HZ, HB⟩ := hrel
      by_cases hlt : k < n
      · have hlt' : (k : Int) < (n : Int) := by omega
        have hkl : k < l.length := by rw [HF.out.len]; exact hlt
        cases a with
        | none => exact absurd (HF.out.none rfl) (by omega)
        | some x =>
          have cc := fun (j : Nat) (hj : j < 6) => cell_kept HB.out (HF.out.cell x rfl k hkl j hj)
          have hby := isBytes_below (HF.out.bytes k hkl) (show Below w.heap.size w wr from HB.out)
          have hstep := chkK_next HZ.out
          have hst : stepQ (l.map (·.f)) k = if frE l[k].f ≠ 0 then frE l[k].f else if 0 < k ∧ Op.bytesLess (nameL l[k].f) (nameL ((l.map (·.f)).getD (k - 1) ⟨0, false, false, false, 0, []⟩)) = true then 4 else 0 := by
            unfold stepQ; rw [map_f l k hkl]
          have hbad : chkK (l.map (·.f)) (k + 1) ≠ 0 → chkQ (l.map (·.f)) = chkK (l.map (·.f)) (k + 1) := by
            intro h
            rw [HC.out]; exact chkK_stop h n (by omega)
          rw [hstep] at hbad
          have HBAD := Hid.mk hbad
          have HST := Hid.mk hst
          have HSTEP := Hid.mk hstep
          clear hbad hst hstep
          generalize hfk : l[k] = v at *
          obtain ⟨⟨id, lo, fa, re, sz, dt⟩, va, vl, vc⟩ := v
          have c0 := cc 0 (by omega)
          have c1 := cc 1 (by omega)
          have c2 := cc 2 (by omega)
          have c3 := cc 3 (by omega)
          have c4 := cc 4 (by omega)
          have c5 := cc 5 (by omega)
          rw [add_nextQ] at c1 c2 c3 c4 c5
          rw [Nat.add_zero] at c0
          simp only [FrV.cells, List.getElem_cons_zero, List.getElem_cons_succ, Nat.reduceAdd] at c0 c1 c2 c3 c4 c5
          simp only at hby
          have hbx := below_box wr id lo fa re sz va vl vc
          have hB2 := bl2 HB.out hbx
          have hcf := HCF.out.fr ⟨id, lo, fa, re, sz, dt⟩ va vl vc _ (isBytes_below hby hbx)
          have HK := Hid.mk (FrAt.box wr id lo fa re sz va vl vc)
          have HB2 := Hid.mk hB2
          simp only at hcf
          have HCK := Hid.mk hcf
          unfold frameC at HCK HK HB2
          unfold frameV at HCK
          clear cc hby hbx hB2 hcf
          by_cases hE : frE ⟨id, lo, fa, re, sz, dt⟩ = 0
          · rw [if_neg (show ¬ frE ⟨id, lo, fa, re, sz, dt⟩ ≠ 0 from fun h => h hE)] at HST
            have hid := frE_ok hE
            have HID := Hid.mk (show (0 : Int) ≤ id ∧ id ≤ topI lo from ⟨hid.1, hid.2.1⟩)
            rw [hE] at HCK
            clear hid
            go_wp2_with fail
            refine HCK.out.mono ?_
            rintro e w1 ⟨rfl, hb1⟩
            have HK1 := Hid.mk (HK.out.kept hb1)
            have HB3 := Hid.mk (bl2 HB2.out hb1)
            clear hb1 c0 c1 c2 c3 c4 c5 HK HB2 HCK
            by_cases h0 : 0 < k
            · have hkl1 : k - 1 < l.length := by omega
              have cc := fun (j : Nat) (hj : j < 6) => cell_kept HB3.out (HF.out.cell x rfl (k - 1) hkl1 j hj)
              have hE1 : frE l[k - 1].f = 0 := (stepQ_ok (by rw [List.length_map]; exact hkl1) (chkK_zero HZ.out (k - 1) (by omega))).1 |> fun h => by rw [List.getElem_map] at h; exact h
              rw [map_f l (k - 1) hkl1] at HST
              generalize l[k - 1] = u at *
              obtain ⟨⟨id', lo', fa', re', sz', dt'⟩, ua, ul, uc⟩ := u
              have d0 := cc 0 (by omega)
              have d1 := cc 1 (by omega)
              have d2 := cc 2 (by omega)
              have d3 := cc 3 (by omega)
              have d4 := cc 4 (by omega)
              have d5 := cc 5 (by omega)
              rw [add_nextQ] at d1 d2 d3 d4 d5
              rw [Nat.add_zero] at d0
              simp only [FrV.cells, List.getElem_cons_zero, List.getElem_cons_succ, Nat.reduceAdd] at d0 d1 d2 d3 d4 d5
              simp only at hE1 HST
              have hid' := frE_ok hE1
              have hn1 := fun W (hW : Below w.heap.size w W) => nameOf_any ⟨id, lo, fa, re, sz, dt⟩ va vl vc W (cell_kept hW HD.out) HID.out.1 HID.out.2
              have hn2 := fun W (hW : Below w.heap.size w W) => nameOf_any ⟨id', lo', fa', re', sz', dt'⟩ ua ul uc W (cell_kept hW HD.out) hid'.1 hid'.2.1
              have hbr := fun d os => bl2 HB3.out (below_regrown w1 d os)
              generalize nameL ⟨id, lo, fa, re, sz, dt⟩ = nm at *
              generalize nameL ⟨id', lo', fa', re', sz', dt'⟩ = pn at *
              have HN1 := Hid.mk hn1
              have HN2 := Hid.mk hn2
              have HBR := Hid.mk hbr
              unfold frameV at HN1 HN2
              simp only at HN1 HN2
              have rf0 := fun d os => (HK1.out.regrownQ d os).c0
              have rf1 := fun d os => (HK1.out.regrownQ d os).c1
              have rf2 := fun d os => (HK1.out.regrownQ d os).c2
              have rf3 := fun d os => (HK1.out.regrownQ d os).c3
              have rf4 := fun d os => (HK1.out.regrownQ d os).c4
              have rf5 := fun d os => (HK1.out.regrownQ d os).c5
              have rg0 := fun d os => cell_reg d0 d os
              have rg1 := fun d os => cell_reg d1 d os
              have rg2 := fun d os => cell_reg d2 d os
              have rg3 := fun d os => cell_reg d3 d os
              have rg4 := fun d os => cell_reg d4 d os
              have rg5 := fun d os => cell_reg d5 d os
              have hk1 : ((k : Int) - 1) = ((k - 1 : Nat) : Int) := by omega
              have hk2 : (((k - 1 : Nat) : Int)) < (n : Int) := by omega
              have hd0 : decide ((0 : Int) < (k : Int)) = true := by simp; omega
              clear cc hE1 hid' hn1 hn2 hbr d0 d1 d2 d3 d4 d5
              by_cases hl : Op.bytesLess nm pn = true
              · rw [if_pos ⟨h0, hl⟩] at HST
                have HH1 := Hid.mk ((HBAD.out (by rw [HST.out]; decide)).trans HST.out)
                go_wp2_with fail
                refine wp_region_quiet_below (by kernel_rfl) (by kernel_rfl) ?_
                repeat (go_big_quiet_step (first
                  | (go_at_call 19; with_reducible_and_instances exact Calls.regrown_of (HN1.out _ (HBR.out _ _)))
                  | (go_at_call 19; with_reducible_and_instances exact Calls.regrown_of (HN2.out _ (HBR.out _ _)))))
                refine wpQuiet_nil ?_
                intro _ hw'
                obtain ⟨⟨dq, osq⟩, hw''⟩ := hw'
                have hbq := below_regrown w1 dq osq
                rw [hw'']
                generalize grow (redrawn w1 dq) osq = w4 at *
                have HB4 := Hid.mk (bl2 HB3.out hbq)
                clear hw'' hbq HB3 HK1 rf0 rf1 rf2 rf3 rf4 rf5 rg0 rg1 rg2 rg3 rg4 rg5 HN1 HN2 HBR
                go_wp2_with fail
                go_ret
                exact ⟨by rw [HH1.out]; rfl, HB4.out⟩
              · rw [if_neg (fun h => hl h.2)] at HST
                go_wp2_with fail
                refine wp_region_quiet_below (by kernel_rfl) (by kernel_rfl) ?_
                repeat (go_big_quiet_step (first
                  | (go_at_call 19; with_reducible_and_instances exact Calls.regrown_of (HN1.out _ (HBR.out _ _)))
                  | (go_at_call 19; with_reducible_and_instances exact Calls.regrown_of (HN2.out _ (HBR.out _ _)))))
                refine wpQuiet_nil ?_
                intro _ hw'
                obtain ⟨⟨dq, osq⟩, hw''⟩ := hw'
                have hbq := below_regrown w1 dq osq
                rw [hw'']
                generalize grow (redrawn w1 dq) osq = w4 at *
                have HB4 := Hid.mk (bl2 HB3.out hbq)
                clear hw'' hbq HB3 HK1 rf0 rf1 rf2 rf3 rf4 rf5 rg0 rg1 rg2 rg3 rg4 rg5 HN1 HN2 HBR
                go_wp2_with fail
                go_roundw
                case rel => exact ⟨k + 1, by omega, by go_num, Hid.mk (HSTEP.out.trans HST.out), HB4⟩
                case measure => simp [intOf]; omega
            · obtain rfl : k = 0 := by omega
              rw [if_neg (fun h => absurd h.1 (Nat.lt_irrefl _))] at HST
              go_wp2_with fail
              go_quiet (fail)
              have HB4 := Hid.mk (HB3.out.trans (show Below w.heap.size w1 (w1.drewN nq) from ⟨rfl, rfl, rfl, Nat.le_refl _, fun _ _ => rfl⟩))
              go_wp2_with fail
              go_roundw
              case rel => exact ⟨0 + 1, by omega, by go_num, Hid.mk (HSTEP.out.trans HST.out), HB4⟩
              case measure => simp [intOf]; omega
          · rw [if_pos hE] at HST
            have hne : (frE ⟨id, lo, fa, re, sz, dt⟩ != 0) = true := by simpa using hE
            have HH1 := Hid.mk ((HBAD.out (by rw [HST.out]; exact hE)).trans HST.out)
            generalize frE ⟨id, lo, fa, re, sz, dt⟩ = ce at *
            go_wp2_with fail
            refine HCK.out.mono ?_
            rintro e w1 ⟨rfl, hb1⟩
            have HB3 := Hid.mk (bl2 HB2.out hb1)
            clear hb1 c0 c1 c2 c3 c4 c5
            go_wp2_with fail
            go_ret
            exact ⟨by rw [HH1.out]; rfl, HB3.out⟩
      · obtain rfl : k = n := by omega
        have HQ := Hid.mk (HC.out.trans HZ.out)
        go_wp2_with fail
        go_ret
        exact ⟨by rw [HQ.out]; rfl, HB.out⟩
end Bw
end Go.Proofs.YthdffdobkampaaaDoor

/- What slices.Insert answers of frames that the call owns, where one is put in. -/
namespace Go.Proofs.YthdffdobkampaaaDoor
open Go.ChangeShapes Go.WideShapes Go.ChangeAt Go.RowKit
namespace Bw
open Bm Cm
theorem frC_app (a b : List FrV) : frC (a ++ b) = frC a ++ frC b := by unfold frC; rw [List.flatMap_append]
theorem frC_ins (l : List FrV) (i : Nat) (v : FrV) : frC (insAt l i v) = frC (l.take i) ++ (v.cells ++ frC (l.drop i)) := by
  unfold insAt
  rw [frC_app]
  rfl
theorem frC_td (l : List FrV) (i : Nat) : frC l = frC (l.take i) ++ frC (l.drop i) := by rw [← frC_app, List.take_append_drop]
theorem frv_oneI (v : FrV) : ∀ u ∈ v.cells, u.oneCell' = true := by
  intro u hu
  unfold FrV.cells at hu
  simp only [List.mem_cons, List.not_mem_nil, or_false] at hu
  rcases hu with rfl | rfl | rfl | rfl | rfl | rfl <;> rfl
theorem size_frI (W : World) : (Go.sizeOf 25).run Tryd.prog W = .ok 6 W := by simp [go_sem]
section
variable {w : World}
theorem run_copy6 (ty : TypeId) (g o dLen dCap : Nat) (a : Addr) (sLen sCap : Nat) (cur : List Value) (cs : List Value) (hg : w.heap[g]? = some (.cells cur.toArray 25 (0, 0)))
    (hn : cs.length = Nat.min sLen dLen * 6) (hsrc : ∀ j v, cs[j]? = some v → w.cell? (a.add j) = some v) (hl : o + cs.length ≤ cur.length) (h1 : ∀ v ∈ cs, v.oneCell' = true) :
    (Builtin.copy_ #[22, 22] ty #[.slice (some ⟨g, o, none⟩) dLen dCap, .slice (some a) sLen sCap]).run Tryd.prog w = .ok (goInt (Nat.min sLen dLen)) (w.setRow g (cur.take o ++ cs ++ cur.drop (o + cs.length)).toArray) := by
  have hfc := run_firstCells_some (P := Tryd.prog) w 6 (Nat.min sLen dLen) a sLen sCap cs hn hsrc
  have hst := run_storeCells_at Tryd.prog g o 25 cs 0 cur.toArray w hg (by simpa using hl) h1
  simp only [Nat.add_zero] at hst
  cases hq : Tryd.prog.info? 25 with
  | none => have := fr_info; rw [hq] at this; cases this
  | some i =>
    have hi : i.size = 6 := by have := fr_info; rw [hq] at this; simpa using this
    simp [Builtin.copy_, run_underlying Tryd.underlying22, Builtin.lenOf, sizeOf, typeInfo, hq, hi, hfc, hst]
end
theorem wpl_copy {ops : Array Oper} {rest : List Oper} {dst : Option Tmp} {ty : TypeId} {pos : String} {aft : Array Edge} {a : Act} {w : World} {Q : Exit → Act → World → Prop} (d s : Operand) (v u : Value) (v' : Value) (w' : World) (hd : a.eval d = v) (hs : a.eval s = u)
    (hr : ∀ ty, (Builtin.copy_ #[22, 22] ty #[v, u]).run Tryd.prog w = .ok v' w') (h : wpList Tryd.prog ops Q rest (a.put dst v') w') :
    wpList Tryd.prog ops Q (Oper.mk dst (.call { callee := .builtin .copy, args := #[d, s], argTypes := #[22, 22] }) ty pos aft none :: rest) a w :=
  wpList_copy_runI w rfl d s 22 22 rfl v u hd hs (hr _) h
set_option maxHeartbeats 1000000 in
set_option maxRecDepth 100000 in
/-- at the end -/
theorem insert_end (sv : Value) (n vb base : Nat) (l : List FrV) (v : FrV) (w : World) (hl : l.length = n) (hn : n ≤ 1000) (hO : w.ownsRow base 25 6 sv n (frC l)) (hb : base ≤ w.heap.size) (hv : w.rangeAt vb 0 v.cells) :
    Calls Tryd.prog 36 #[sv, .int .i64 n, .slice (some ⟨vb, 0, none⟩) 1 1] w fun e w' => ∃ r, e = .returned r ∧ w'.ownsRow base 25 6 r (n + 1) (frC (insAt l n v)) ∧ Below base w w' := by
  obtain ⟨i0, hi, hz0, hz1, hz2⟩ := info_parts info_fr
  have hins : frC (insAt l n v) = frC l ++ v.cells := by
    rw [frC_ins, List.take_of_length_le (by omega), List.drop_of_length_le (by omega)]; rfl
  rw [hins]
  have HO := Hid.mk hO
  have hcc : ∀ j u, v.cells[j]? = some u → w.cell? (Addr.add ⟨vb, 0, none⟩ j) = some u := fun j u hj => by rw [Addr.add_mid]; exact hv j u hj
  have HCC := Hid.mk hcc
  obtain ⟨a, cp, rfl, hcp⟩ : ∃ a cp, sv = .slice a n cp ∧ n ≤ cp := by
    rcases hO.2 with ⟨h1, h2⟩ | ⟨g, cap, cur, h1, _, _, hc, _⟩
    · subst h2; exact ⟨none, 0, h1, Nat.le_refl _⟩
    · exact ⟨_, cap, h1, hc⟩
  have hLT := Hid.mk (show ∀ q, (Value.slice a n cp).ownBlock = some q → base ≤ q from fun q hq => (hO.lt q hq).1)
  clear hO hv hcc hins
  go_enter Tryd.func36, Tryd.ntmps36
  go_wp2_with (at_builtin; refine wpList_append_own _ rfl (.tmp 23) (.tmp 24) 22 rfl base 25 i0 (.agg #[.int .i64 0, .bool false, .bool false, .bool false, .int .i64 0, .slice none 0 0]) 6 48 Tryd.underlying22 hi hz0 hz1 hz2 rfl (by decide) _ _ _ rfl HO.out ⟨vb, 0, none⟩ 1 1 v.cells rfl rfl HCC.out (frv_oneI v) (by unfold maxLen; omega) (by omega) hb ?_; intro v3 w3 hown3 hgrow3 hnil3)
  all_goals (go_ret; exact ⟨v3, rfl, hown3, Below.grown (Below.refl _ _) hgrow3 hb hLT.out⟩)
set_option maxHeartbeats 1000000 in
set_option maxRecDepth 100000 in
/-- in the middle, where there is room -/
theorem insert_shift (g n c i vb base : Nat) (l : List FrV) (v : FrV) (w : World) (hl : l.length = n) (hn : n ≤ 1000) (hi : i < n) (hc : n + 1 ≤ c) (hcm : c ≤ 9223372036854775807) (cur : List Value) (hg : w.heap[g]? = some (.cells cur.toArray 25 (0, 0))) (hcl : cur.length = c * 6) (htk : cur.take (n * 6) = frC l) (hbg : base ≤ g) (hv : w.heap[vb]? = some (.cells v.cells.toArray 25 (0, 0))) (hvg : vb ≠ g) :
    Calls Tryd.prog 36 #[.slice (some ⟨g, 0, none⟩) n c, .int .i64 i, .slice (some ⟨vb, 0, none⟩) 1 1] w fun e w' => ∃ r, e = .returned r ∧ w'.ownsRow base 25 6 r (n + 1) (frC (insAt l i v)) ∧ Below base w w' := by
  have mixed : Tryd.prog.follows .mixedOrders = true := by kernel_rfl
  have hz2 : ¬ ((i : Int) = (n : Int)) := by omega
  have hdl : (frC (l.drop i)).length = (n - i) * 6 := by rw [frC_length, List.length_drop, hl]
  have htl : (frC (l.take i)).length = i * 6 := by rw [frC_length, List.length_take]; omega
  have hov : ∀ lb cb, (callFunc 46 #[.slice (some ⟨vb, 0, none⟩) 1 1, .slice (some ⟨g, (i + 1) * 6, none⟩) lb cb]).run Tryd.prog w = .ok (.value (.bool false)) w := fun lb cb => by
    rw [run_callFunc_extern Tryd.func46 (by kernel_rfl) (by kernel_rfl) (by kernel_rfl) (e := Extern.SlicesOverlaps.overlaps #[22, 22] #[4]) (by kernel_rfl),
      Lib.run_overlaps_apart w 22 4 25 Tryd.underlying22 6 size_frI ⟨vb, 0, none⟩ ⟨g, (i + 1) * 6, none⟩ 1 1 lb cb hvg 25 25 6 (c * 6) (by simp [World.shape?, hv]; rfl) (by simp [World.shape?, hg, hcl]) (by omega) (frozen_of_row w vb 0 _ _ hv) (frozen_of_row w vb 6 _ _ hv)]
    rfl
  have hcurl : cur = (frC (l.take i) ++ frC (l.drop i)) ++ cur.drop (n * 6) := by rw [← frC_td, ← htk, List.take_append_drop]
  have hsrc : ∀ j u, (frC (l.drop i))[j]? = some u → w.drew.cell? (Addr.add ⟨g, i * 6, none⟩ j) = some u := by
    intro j u hj
    have hj1 : j < (frC (l.drop i)).length := (List.getElem?_eq_some_iff.1 hj).1
    have e : w.drew.cell? ⟨g, i * 6 + j, none⟩ = w.cell? ⟨g, i * 6 + j, none⟩ := rfl
    rw [Addr.add_mid, e, cell_of_row w g _ _ _ _ hg, List.getElem?_toArray, hcurl, List.append_assoc, List.getElem?_append_right (by omega), htl, show i * 6 + j - i * 6 = j by omega, List.getElem?_append_left hj1]
    exact hj
  obtain ⟨cur1, hcur1⟩ : ∃ c1, c1 = cur.take ((i + 1) * 6) ++ frC (l.drop i) ++ cur.drop ((i + 1) * 6 + (n - i) * 6) := ⟨_, rfl⟩
  have hcp1 : ∀ ty dc sc, (Builtin.copy_ #[22, 22] ty #[.slice (some ⟨g, (i + 1) * 6, none⟩) (n + 1 - (i + 1)) dc, .slice (some ⟨g, i * 6, none⟩) (n + 1 - i) sc]).run Tryd.prog w.drew = .ok (goInt (Nat.min (n + 1 - i) (n + 1 - (i + 1)))) (w.drew.setRow g cur1.toArray) := fun ty dc sc => by
    have := run_copy6 (w := w.drew) ty g ((i + 1) * 6) (n + 1 - (i + 1)) dc ⟨g, i * 6, none⟩ (n + 1 - i) sc cur (frC (l.drop i)) hg (by rw [hdl]; simp only [Nat.min_def]; split <;> omega) hsrc (by rw [hdl, hcl]; omega) (frC_one _)
    rw [hdl, ← hcur1] at this
    exact this
  obtain ⟨W1, hW1⟩ : ∃ W1, W1 = w.drew.setRow g cur1.toArray := ⟨_, rfl⟩
  have hg1 : W1.heap[g]? = some (.cells cur1.toArray 25 (0, 0)) := by rw [hW1]; exact setRow_heap w.drew g _ _ _ _ hg
  have hv1 : W1.heap[vb]? = some (.cells v.cells.toArray 25 (0, 0)) := by rw [hW1, setRow_other _ _ _ _ hvg]; exact hv
  have hc1l : cur1.length = c * 6 := by rw [hcur1]; simp only [List.length_append, List.length_take, List.length_drop, hdl, hcl]; omega
  obtain ⟨cur2, hcur2⟩ : ∃ c2, c2 = cur1.take (i * 6) ++ v.cells ++ cur1.drop (i * 6 + 6) := ⟨_, rfl⟩
  have hcp2 : ∀ ty dc, (Builtin.copy_ #[22, 22] ty #[.slice (some ⟨g, i * 6, none⟩) (n + 1 - i) dc, .slice (some ⟨vb, 0, none⟩) 1 1]).run Tryd.prog W1 = .ok (goInt (Nat.min 1 (n + 1 - i))) (W1.setRow g cur2.toArray) := fun ty dc => by
    have := run_copy6 (w := W1) ty g (i * 6) (n + 1 - i) dc ⟨vb, 0, none⟩ 1 1 cur1 v.cells hg1 (by show 6 = _; simp only [Nat.min_def]; split <;> omega) (fun j u hj => by rw [Addr.add_mid, Nat.zero_add, cell_of_row W1 vb _ _ _ _ hv1, List.getElem?_toArray]; exact hj) (by rw [hc1l]; show i * 6 + 6 ≤ _; omega) (frv_oneI v)
    rw [show v.cells.length = 6 from rfl, ← hcur2] at this
    exact this
  have hfin : cur2.take ((n + 1) * 6) = frC (insAt l i v) := by
    have e1 : cur1 = (frC (l.take i) ++ (frC (l.drop i)).take 6) ++ (frC (l.drop i) ++ cur.drop ((n + 1) * 6)) := by
      rw [hcur1, show (i + 1) * 6 + (n - i) * 6 = (n + 1) * 6 by omega]
      have e2 : cur.take ((i + 1) * 6) = frC (l.take i) ++ (frC (l.drop i)).take 6 := by
        have e3 : cur.take ((i + 1) * 6) = (frC l).take ((i + 1) * 6) := by rw [← htk, List.take_take, Nat.min_eq_left (by omega)]
        rw [e3, frC_td l i, List.take_append, htl, show (i + 1) * 6 - i * 6 = 6 by omega, List.take_of_length_le (by rw [htl]; omega)]
      rw [e2]; simp only [List.append_assoc]
    have e4 : cur1.take (i * 6) = frC (l.take i) := by rw [e1, List.append_assoc, List.take_left' htl]
    have e5 : cur1.drop (i * 6 + 6) = frC (l.drop i) ++ cur.drop ((n + 1) * 6) := by
      rw [e1]
      exact List.drop_left' (by rw [List.length_append, htl, List.length_take, hdl, Nat.min_eq_left (by omega)])
    rw [hcur2, e4, e5, frC_ins]
    have e6 : frC (l.take i) ++ v.cells ++ (frC (l.drop i) ++ cur.drop ((n + 1) * 6)) = (frC (l.take i) ++ (v.cells ++ frC (l.drop i))) ++ cur.drop ((n + 1) * 6) := by simp only [List.append_assoc]
    rw [e6]
    exact List.take_left' (by rw [List.length_append, List.length_append, htl, hdl]; show i * 6 + (6 + _) = _; omega)
  have hc2l : cur2.length = c * 6 := by rw [hcur2]; simp only [List.length_append, List.length_take, List.length_drop, hc1l]; show _ + 6 + _ = _; omega
  have hend : ∃ r, Ending.returned (.slice (some ⟨g, 0, none⟩) (n + 1) c) = .returned r ∧ (W1.setRow g cur2.toArray).ownsRow base 25 6 r (n + 1) (frC (insAt l i v)) ∧ Below base w (W1.setRow g cur2.toArray) := by
    refine ⟨_, rfl, ⟨by rw [frC_length, insAt_len, hl], .inr ⟨g, c, cur2.toArray, rfl, hbg, setRow_heap W1 g _ _ _ _ hg1, hc, by unfold maxLen; omega, by rw [List.size_toArray, hc2l], by simpa using hfin⟩⟩, ?_⟩
    rw [hW1]
    exact ⟨rfl, rfl, rfl, by simp, fun k hk => by rw [setRow_other _ _ _ _ (by omega), setRow_other _ _ _ _ (by omega)]; rfl⟩
  have HEND := Hid.mk hend
  have hw1 : IntKind.i64.wrap ((i : Int) + 1) = (i : Int) + 1 := by rw [IntKind.wrap_i64]; omega
  have hb1 : (0 : Int) ≤ (i : Int) + 1 := by omega
  have hin : i ≤ n := by omega
  have htn : ((i : Int) + 1).toNat = i + 1 := by omega
  have hb2 : ¬ (c = i + 1) := by omega
  have hb3 : (i : Int) ≤ (n : Int) + 1 := by omega
  have hb4 : ¬ (c = i) := by omega
  have hb5 : ¬ ((c : Int) < (n : Int) + 1) := by omega
  rw [← hW1] at hcp1
  clear hW1
  clear hdl htl hcurl hsrc hcur1 hg1 hv1 hc1l hcur2 hfin hc2l hend hcl htk hg hv
  go_enter Tryd.func36, Tryd.ntmps36
  go_wp2_with (simp only [hov])
  go_region_law_o (refine step_copy_runI rfl _ _ 22 22 rfl (.slice (some ⟨g, (i + 1) * 6, none⟩) (n + 1 - (i + 1)) (c - (i + 1))) (.slice (some ⟨g, i * 6, none⟩) (n + 1 - i) (c - i)) (by simp [Act.eval, Act.put]) (by simp [Act.eval, Act.put]) (hcp1 _ _ _) ?_)
  go_wp2_with ((with_reducible_and_instances refine wpl_copy (.tmp 80) (.tmp 81) (.slice (some ⟨g, i * 6, none⟩) (n + 1 - i) (c - i)) (.slice (some ⟨vb, 0, none⟩) 1 1) _ _ ?_ ?_ (fun ty => hcp2 ty (c - i)) ?_); rfl; rfl)
  go_ret
  exact HEND.out
end Bw
end Go.Proofs.YthdffdobkampaaaDoor

/- How many bytes a frame that came in can have: the row's own reach. -/
namespace Go.Proofs.YthdffdobkampaaaDoor
open Go.ChangeShapes Go.WideShapes Go.ChangeAt Go.RowKit
namespace Bw
theorem bytes_b1 : Tryd.prog.bytesOf 5 = 1 := by kernel_rfl
set_option maxRecDepth 100000 in
theorem frame_len {H : Type} {enc : TypeId × Value → H} {W : World} {id : Int} {lo fa re : Bool} {sz : Int} {a : Option Addr} {len cap : Nat} {fuel : Nat} {x : DataW H × List MemPlace}
    (hf : DataW.trod enc Tryd.prog W 0 (fun _ => true) true fuel 25 (frameV id lo fa re sz a len cap).cells.toList = some x)
    (hw : (DataW.weights Tryd.prog 25 x.1).all (· ≤ reachBytes) = true) : len ≤ 140737488351232 := by
  obtain ⟨xs, n, _, rfl, _, hlen, hF⟩ := DataW.trod_struct Tryd.underlying25 hf
  have hcv : (frameV id lo fa re sz a len cap).cells.toList = [.int .i64 id, .bool lo, .bool fa, .bool re, .int .i64 sz, .slice a len cap] := rfl
  rw [hcv] at hF
  have h6 : xs.length = 6 := hlen
  obtain ⟨y5, e5⟩ : ∃ y, xs[5]? = some y := ⟨xs[5]'(by omega), List.getElem?_eq_getElem (by omega)⟩
  have f5 := hF 5 _ rfl
  rw [e5] at f5
  have f5 : DataW.trod enc Tryd.prog W 0 (fun _ => true) true n 23 (([Value.int .i64 id, .bool lo, .bool fa, .bool re, .int .i64 sz, .slice a len cap].drop 5).take (Tryd.prog.cellsOf 23)) = some y5 := f5
  rw [row_c1] at f5
  have e6 : ([Value.int .i64 id, .bool lo, .bool fa, .bool re, .int .i64 sz, .slice a len cap].drop 5).take 1 = [.slice a len cap] := rfl
  rw [e6] at f5
  have hwe : (DataW.weightsEach Tryd.prog [3, 4, 4, 4, 3, 23] (xs.map (·.1))).all (· ≤ reachBytes) = true := by
    have hw' := hw
    unfold DataW.weights at hw'
    rw [Tryd.underlying25] at hw'
    exact hw'
  rcases open_ints Tryd.underlying23 Tryd.underlying5 byte_c1 f5 with ⟨q5, _⟩ | ⟨a', len', cap', zs, q5, _, hl, hm, hz, hx5, _, _⟩
  · simp only [List.cons.injEq, and_true, Value.slice.injEq] at q5
    omega
  · simp only [List.cons.injEq, and_true, Value.slice.injEq] at q5
    obtain ⟨-, q6, q7⟩ := q5
    have hd5 : (xs.map (·.1))[5]? = some (.slice (lits .u8 (zs.take len')) (lits .u8 (zs.drop len'))) := by
      rw [List.getElem?_map, e5, hx5]; rfl
    have hs := sized_slice hwe (j := 5) (t := 23) (e := 5) rfl hd5 Tryd.underlying23
    rw [bytes_b1] at hs
    simp only [lits, List.length_map, List.length_take, List.length_drop, reachBytes] at hs
    simp at hz
    omega
end Bw
end Go.Proofs.YthdffdobkampaaaDoor

/- What slices.Clone answers of frames: a row of its own. -/
namespace Go.Proofs.YthdffdobkampaaaDoor
open Go.ChangeShapes Go.WideShapes Go.ChangeAt Go.RowKit
namespace Bw
open Bm
theorem info_frame : (Tryd.prog.info? 25).map (fun i => (i.zero, i.size, i.bytes)) = some (some (.agg #[.int .i64 0, .bool false, .bool false, .bool false, .int .i64 0, .slice none 0 0]), 6, 48) := by kernel_rfl
theorem bytes_frame : Tryd.prog.bytesOf 25 = 48 := by kernel_rfl
theorem frames_len {H : Type} {enc : TypeId × Value → H} {W : World} {a : Option Addr} {n cap : Nat} {fuel : Nat} {x : DataW H × List MemPlace}
    (hf : DataW.trod enc Tryd.prog W 0 (fun _ => true) true fuel 22 (Value.slice a n cap).cells.toList = some x)
    (hw : (DataW.weights Tryd.prog 22 x.1).all (· ≤ reachBytes) = true) : n * 48 ≤ 140737488351232 := by
  have hcv : (Value.slice a n cap).cells.toList = [.slice a n cap] := rfl
  rw [hcv] at hf
  rcases DataW.trod_slice Tryd.underlying22 hf with ⟨h0, _⟩ | ⟨y, len, cp, elems, rest, m, _, h0, hx, _, hl, hm, hlen, _, _, _⟩
  · simp only [List.cons.injEq, and_true, Value.slice.injEq] at h0
    omega
  · simp only [List.cons.injEq, and_true, Value.slice.injEq] at h0
    obtain ⟨_, rfl, rfl⟩ := h0
    subst hx
    unfold DataW.weights at hw
    simp only [Tryd.underlying22, List.all_cons, Bool.and_eq_true, bytes_frame, List.length_map] at hw
    have h1 := of_decide_eq_true hw.1
    unfold reachBytes at h1
    omega
theorem eql_nil (w : World) (cap : Nat) : (binOp .eql 22 (.slice none 0 cap) (.slice none 0 0)).run Tryd.prog w = .ok (.bool true) w := by
  exact Lib.run_eql_slice_nil w 22 25 none 0 cap 0 0 Tryd.underlying22
theorem eql_some (w : World) (x : Addr) (n cap : Nat) : (binOp .eql 22 (.slice (some x) n cap) (.slice none 0 0)).run Tryd.prog w = .ok (.bool false) w := by
  exact Lib.run_eql_slice_nil w 22 25 (some x) n cap 0 0 Tryd.underlying22
set_option maxHeartbeats 4000000 in
set_option maxRecDepth 100000 in
theorem clone_nil (w : World) (cap : Nat) :
    Calls Tryd.prog 20 #[.slice none 0 cap] w fun e w' => e = .returned (.slice none 0 0) ∧ w' = w := by
  have he := eql_nil w cap
  go_enter Tryd.func20, Tryd.ntmps20
  go_wp2_with fail
  go_ret
  exact ⟨rfl, rfl⟩
set_option maxHeartbeats 4000000 in
set_option maxRecDepth 100000 in
theorem clone_some (x : Addr) (n cap : Nat) (l : List FrV) (w : World) (hF : IsFrames w (some x) n cap l) (hn : n * 48 ≤ 140737488351232) :
    Calls Tryd.prog 20 #[.slice (some x) n cap] w fun e w' => ∃ g c, e = .returned (.slice (some ⟨g, 0, none⟩) n c) ∧ w'.ownsRow w.heap.size 25 6 (.slice (some ⟨g, 0, none⟩) n c) n (frC l) ∧ Below w.heap.size w w' := by
  obtain ⟨i0, hi, hz0, hz1, hz2⟩ := info_parts info_frame
  have hmx : n ≤ maxLen := Nat.le_trans hF.le hF.max
  have hl := hF.len
  have HF := Hid.mk hF
  have HLE := Hid.mk (show (frC l).length = n * 6 by rw [frC_length, hl])
  have hcc : ∀ j u, (frC l)[j]? = some u → (w.alloc (.cells #[] 25)).cell? (x.add j) = some u := by
    intro j u hj
    obtain ⟨i, k, hi, hk, rfl, rfl⟩ := frC_idx l j u hj
    exact cell_kept ((Below.refl _ _).alloc (Nat.le_refl _) _) (hF.cell x rfl i hi k hk)
  have HCC := Hid.mk hcc
  have HB := Hid.mk (show Below w.heap.size w (w.alloc (.cells #[] 25)) from (Below.refl _ _).alloc (Nat.le_refl _) _)
  have HO := Hid.mk (show (w.alloc (.cells #[] 25)).ownsRow w.heap.size 25 6 (.slice (some ⟨w.heap.size, 0, none⟩) 0 0) 0 [] from World.ownsRow_made w #[] 0 (Nat.le_refl _) (Nat.zero_le _) rfl)
  have he := eql_some w x n cap
  clear hF hcc hl
  go_enter Tryd.func20, Tryd.ntmps20
  go_wp2_with (at_builtin; refine wpList_append_own _ rfl (.tmp 5) (.tmp 6) 22 rfl w.heap.size 25 i0 (.agg #[.int .i64 0, .bool false, .bool false, .bool false, .int .i64 0, .slice none 0 0]) 6 48 Tryd.underlying22 hi hz0 hz1 hz2 rfl (by decide) _ _ _ rfl HO.out x n cap (frC l) rfl HLE.out HCC.out (frC_one l) (by omega) (by omega) (by simp) ?_; intro v3 w3 hown3 hgrow3 hnil3)
  rw [Nat.zero_add, List.nil_append] at hown3
  obtain ⟨g, c, rfl⟩ : ∃ g c, v3 = .slice (some ⟨g, 0, none⟩) n c := by
    rcases hown3.2 with ⟨h1, _⟩ | ⟨g, c, cur, h1, _⟩
    · have h2 := hnil3.1 h1
      cases h2.1
    · exact ⟨g, c, h1⟩
  have hB3 : Below w.heap.size w w3 := Below.grown HB.out hgrow3 (by simp) (fun q hq => (HO.out.lt q hq).1)
  go_ret
  exact ⟨g, c, rfl, hown3, hB3⟩
end Bw
end Go.Proofs.YthdffdobkampaaaDoor

/- What slices.Insert answers of frames that the call owns, where there is no room; and all its ways as one. -/
namespace Go.Proofs.YthdffdobkampaaaDoor
open Go.ChangeShapes Go.WideShapes Go.ChangeAt Go.RowKit
namespace Bw
open Bm Cm
set_option maxHeartbeats 1000000 in
set_option maxRecDepth 100000 in
/-- in the middle, where there is no room -/
theorem insert_grow (g n c i vb base : Nat) (l : List FrV) (v : FrV) (w : World) (hl : l.length = n) (hn : n ≤ 1000) (hi : i < n) (hnc : n ≤ c) (hc : c < n + 1) (cur : List Value) (hg : w.heap[g]? = some (.cells cur.toArray 25 (0, 0))) (htk : cur.take (n * 6) = frC l) (hbase : base ≤ w.heap.size) (hv : w.heap[vb]? = some (.cells v.cells.toArray 25 (0, 0))) :
    Calls Tryd.prog 36 #[.slice (some ⟨g, 0, none⟩) n c, .int .i64 i, .slice (some ⟨vb, 0, none⟩) 1 1] w fun e w' => ∃ r, e = .returned r ∧ w'.ownsRow base 25 6 r (n + 1) (frC (insAt l i v)) ∧ Below base w w' := by
  obtain ⟨i0, hi0, hz0, hz1, hz2⟩ := info_parts info_fr
  have mixed : Tryd.prog.follows .mixedOrders = true := by kernel_rfl
  have hne : ¬ ((i : Int) = (n : Int)) := by omega
  have hdl : (frC (l.drop i)).length = (n - i) * 6 := by rw [frC_length, List.length_drop, hl]
  have htl : (frC (l.take i)).length = i * 6 := by rw [frC_length, List.length_take]; omega
  have hgl : g < w.heap.size := (Array.getElem?_eq_some_iff.1 hg).1
  have hvl : vb < w.heap.size := (Array.getElem?_eq_some_iff.1 hv).1
  have hcurl : cur = (frC (l.take i) ++ frC (l.drop i)) ++ cur.drop (n * 6) := by rw [← frC_td, ← htk, List.take_append_drop]
  have hold : (Builtin.firstCells i0.size i (.slice (some ⟨g, 0, none⟩) i c)).run Tryd.prog w.drew = .ok (frC (l.take i)).toArray w.drew := by
    rw [hz1]
    exact run_firstCells_some w.drew 6 i ⟨g, 0, none⟩ i c (frC (l.take i)) htl (fun j u hj => by
      have hj1 : j < (frC (l.take i)).length := (List.getElem?_eq_some_iff.1 hj).1
      have e : w.drew.cell? ⟨g, 0 + j, none⟩ = w.cell? ⟨g, 0 + j, none⟩ := rfl
      rw [Addr.add_mid, e, Nat.zero_add, cell_of_row w g _ _ _ _ hg, List.getElem?_toArray, hcurl, List.append_assoc, List.getElem?_append_left hj1]
      exact hj)
  have hik : i + (n + 1 - i) = n + 1 := by omega
  obtain ⟨ROW, W1, hrz, hW1, hRl, hRt⟩ : ∃ (ROW : List Value) (W1 : World), (∀ ty, (Builtin.append_ #[22, 3] ty #[.slice (some ⟨g, 0, none⟩) i c, .int .i64 ((n : Int) + 1 - (i : Int))]).run Tryd.prog w = .ok (.slice (some ⟨w.heap.size, 0, none⟩) (n + 1) (grownCap w (n + 1) c 25)) W1) ∧ W1 = w.drew.alloc (.cells ROW.toArray 25) ∧ ROW.length = grownCap w (n + 1) c 25 * 6 ∧ ROW.take (i * 6) = frC (l.take i) := by
    have hG := grownCap_ge w (n + 1) c 25
    refine ⟨frC (l.take i) ++ ((Builtin.zeroCells (Value.agg #[.int .i64 0, .bool false, .bool false, .bool false, .int .i64 0, .slice none 0 0]).cells (n + 1 - i)).toList ++ (Builtin.zeroCells (Value.agg #[.int .i64 0, .bool false, .bool false, .bool false, .int .i64 0, .slice none 0 0]).cells (grownCap w (n + 1) c 25 - (n + 1))).toList), _, fun ty => ?_, rfl, ?_, List.take_left' htl⟩
    · have h := Lib.run_append_grow_zeros w 22 3 ty 25 i0 _ .i64 .i64 Tryd.underlying22 Tryd.underlying3 hi0 hz0 (some ⟨g, 0, none⟩) i c (frC (l.take i)) hold (n + 1 - i) (by omega) (by rw [hz1]; omega) (by omega) (by omega) (by rw [hz2]; omega) (by rw [hz2, hik]; exact growslice_fits hc (by omega))
      rw [hik] at h
      rw [show (n : Int) + 1 - (i : Int) = ((n + 1 - i : Nat) : Int) by omega, h]
      congr 3
      simp
    · simp only [List.length_append, htl, Array.length_toList, Builtin.zeroCells, Array.size_map, Array.size_range]
      show i * 6 + ((n + 1 - i) * 6 + (_ - (n + 1)) * 6) = _
      omega
  obtain ⟨G, hG⟩ : ∃ G, G = grownCap w (n + 1) c 25 := ⟨_, rfl⟩
  have hGn : n + 1 ≤ G := by rw [hG]; exact grownCap_ge w _ _ _
  have hGm : G ≤ maxLen := by rw [hG]; exact grownCap_le_maxLen w (n + 1) c 25 (by unfold maxLen; omega)
  rw [← hG] at hrz hRl
  obtain ⟨N, hN⟩ : ∃ N, N = w.heap.size := ⟨_, rfl⟩
  rw [← hN] at hrz
  have hN1 : W1.heap[N]? = some (.cells ROW.toArray 25 (0, 0)) := by rw [hW1, hN]; exact heap_alloc_new w.drew _
  have hb1 : Below base w W1 := by
    rw [hW1]
    exact ⟨rfl, rfl, rfl, by simp, fun k hk => by rw [heap_alloc_old w.drew _ (show k < w.drew.heap.size from Nat.lt_of_lt_of_le hk hbase)]; rfl⟩
  have hg1 : W1.heap[g]? = some (.cells cur.toArray 25 (0, 0)) := by rw [hW1, heap_alloc_old w.drew _ (show g < w.drew.heap.size from hgl)]; exact hg
  have hv1 : W1.heap[vb]? = some (.cells v.cells.toArray 25 (0, 0)) := by rw [hW1, heap_alloc_old w.drew _ (show vb < w.drew.heap.size from hvl)]; exact hv
  have hgN : g ≠ N := by omega
  obtain ⟨R1, hR1⟩ : ∃ R1, R1 = ROW.take (i * 6) ++ v.cells ++ ROW.drop (i * 6 + 6) := ⟨_, rfl⟩
  have hR1l : R1.length = G * 6 := by rw [hR1]; simp only [List.length_append, List.length_take, List.length_drop, hRl]; show _ + 6 + _ = _; omega
  obtain ⟨W2, hW2⟩ : ∃ W2, W2 = W1.setRow N R1.toArray := ⟨_, rfl⟩
  have hcpA : ∀ ty dc, (Builtin.copy_ #[22, 22] ty #[.slice (some ⟨N, i * 6, none⟩) (n + 1 - i) dc, .slice (some ⟨vb, 0, none⟩) 1 1]).run Tryd.prog W1 = .ok (goInt (Nat.min 1 (n + 1 - i))) W2 := fun ty dc => by
    have := run_copy6 (w := W1) ty N (i * 6) (n + 1 - i) dc ⟨vb, 0, none⟩ 1 1 ROW v.cells hN1 (by show 6 = _; simp only [Nat.min_def]; split <;> omega) (fun j u hj => by rw [Addr.add_mid, Nat.zero_add, cell_of_row W1 vb _ _ _ _ hv1, List.getElem?_toArray]; exact hj) (by rw [hRl]; show i * 6 + 6 ≤ _; omega) (frv_oneI v)
    rw [show v.cells.length = 6 from rfl, ← hR1, ← hW2] at this
    exact this
  have hN2 : W2.heap[N]? = some (.cells R1.toArray 25 (0, 0)) := by rw [hW2]; exact setRow_heap W1 N _ _ _ _ hN1
  have hg2 : W2.heap[g]? = some (.cells cur.toArray 25 (0, 0)) := by rw [hW2, setRow_other _ _ _ _ hgN]; exact hg1
  have hb2 : Below base w W2 := hb1.trans (by rw [hW2]; exact ⟨rfl, rfl, rfl, by simp, fun k hk => by rw [setRow_other _ _ _ _ (by omega)]⟩)
  obtain ⟨R2, hR2⟩ : ∃ R2, R2 = R1.take ((i + 1) * 6) ++ frC (l.drop i) ++ R1.drop ((i + 1) * 6 + (n - i) * 6) := ⟨_, rfl⟩
  obtain ⟨W3, hW3⟩ : ∃ W3, W3 = W2.drew.setRow N R2.toArray := ⟨_, rfl⟩
  have hcpB : ∀ ty dc sc, (Builtin.copy_ #[22, 22] ty #[.slice (some ⟨N, (i + 1) * 6, none⟩) (n + 1 - (i + 1)) dc, .slice (some ⟨g, i * 6, none⟩) (n - i) sc]).run Tryd.prog W2.drew = .ok (goInt (Nat.min (n - i) (n + 1 - (i + 1)))) W3 := fun ty dc sc => by
    have := run_copy6 (w := W2.drew) ty N ((i + 1) * 6) (n + 1 - (i + 1)) dc ⟨g, i * 6, none⟩ (n - i) sc R1 (frC (l.drop i)) hN2 (by rw [hdl]; simp only [Nat.min_def]; split <;> omega) (fun j u hj => by
        have hj1 : j < (frC (l.drop i)).length := (List.getElem?_eq_some_iff.1 hj).1
        have e : W2.drew.cell? ⟨g, i * 6 + j, none⟩ = W2.cell? ⟨g, i * 6 + j, none⟩ := rfl
        rw [Addr.add_mid, e, cell_of_row W2 g _ _ _ _ hg2, List.getElem?_toArray, hcurl, List.append_assoc, List.getElem?_append_right (by omega), htl, show i * 6 + j - i * 6 = j by omega, List.getElem?_append_left hj1]
        exact hj) (by rw [hdl, hR1l]; omega) (frC_one _)
    rw [hdl, ← hR2, ← hW3] at this
    exact this
  have hN3 : W3.heap[N]? = some (.cells R2.toArray 25 (0, 0)) := by rw [hW3]; exact setRow_heap W2.drew N _ _ _ _ hN2
  have hb3 : Below base w W3 := hb2.trans (by rw [hW3]; exact ⟨rfl, rfl, rfl, by simp, fun k hk => by rw [setRow_other _ _ _ _ (by omega)]; rfl⟩)
  have hR2l : R2.length = G * 6 := by rw [hR2]; simp only [List.length_append, List.length_take, List.length_drop, hdl, hR1l]; omega
  have hfin : R2.take ((n + 1) * 6) = frC (insAt l i v) := by
    have e1 : R1.take ((i + 1) * 6) = frC (l.take i) ++ v.cells := by
      rw [hR1, hRt]
      exact List.take_left' (by rw [List.length_append, htl]; show i * 6 + 6 = _; omega)
    rw [hR2, e1, frC_ins]
    have e6 : frC (l.take i) ++ v.cells ++ frC (l.drop i) = frC (l.take i) ++ (v.cells ++ frC (l.drop i)) := by simp only [List.append_assoc]
    rw [e6]
    exact List.take_left' (by rw [List.length_append, List.length_append, htl, hdl]; show i * 6 + (6 + _) = _; omega)
  have hend : ∃ r, Ending.returned (.slice (some ⟨N, 0, none⟩) (n + 1) G) = .returned r ∧ W3.ownsRow base 25 6 r (n + 1) (frC (insAt l i v)) ∧ Below base w W3 :=
    ⟨_, rfl, ⟨by rw [frC_length, insAt_len, hl], .inr ⟨N, G, R2.toArray, rfl, by omega, hN3, hGn, hGm, by rw [List.size_toArray, hR2l], by simpa using hfin⟩⟩, hb3⟩
  have HEND := Hid.mk hend
  have hG63 : G ≤ 9223372036854775807 := by unfold maxLen at hGm; omega
  have hw1 : IntKind.i64.wrap ((i : Int) + 1) = (i : Int) + 1 := by rw [IntKind.wrap_i64]; omega
  have hb1' : (0 : Int) ≤ (i : Int) + 1 := by omega
  have hin : i ≤ n := by omega
  have htn : ((i : Int) + 1).toNat = i + 1 := by omega
  have hGi : ¬ (G = i) := by omega
  have hGim : ¬ (G = i + 1) := by omega
  have hci : ¬ (c = i) := by omega
  have hc3 : (c : Int) < (n : Int) + 1 := by omega
  have hbi : (i : Int) ≤ (n : Int) := by omega
  clear hold hik hW1 hRl hRt hG hGm hN hN1 hb1 hg1 hv1 hgN hR1 hR1l hW2 hN2 hg2 hb2 hR2 hW3 hN3 hb3 hR2l hfin hend hdl htl hcurl hgl hvl htk hg hv hz0 hz1 hz2 hi0
  go_enter Tryd.func36, Tryd.ntmps36
  go_wp2_with (first
    | (at_builtin; refine Lib.wpList_append_run _ rfl _ _ _ _ rfl _ _ rfl rfl _ _ (hrz _) ?_)
    | ((with_reducible_and_instances refine wpl_copy (.tmp 43) (.tmp 44) (.slice (some ⟨N, i * 6, none⟩) (n + 1 - i) (G - i)) (.slice (some ⟨vb, 0, none⟩) 1 1) _ _ ?_ ?_ (fun ty => hcpA ty (G - i)) ?_); rfl; rfl))
  go_region_law_o (refine step_copy_runI rfl _ _ 22 22 rfl (.slice (some ⟨N, (i + 1) * 6, none⟩) (n + 1 - (i + 1)) (G - (i + 1))) (.slice (some ⟨g, i * 6, none⟩) (n - i) (c - i)) (by simp [Act.eval, Act.put]) (by simp [Act.eval, Act.put]) (hcpB _ _ _) ?_)
  go_wp2_with fail
  go_ret
  exact HEND.out
/-- wherever it goes -/
theorem insert_any (sv : Value) (n i vb base : Nat) (l : List FrV) (v : FrV) (w : World) (hl : l.length = n) (hn : n ≤ 1000) (hi : i ≤ n) (hO : w.ownsRow base 25 6 sv n (frC l)) (hb : base ≤ w.heap.size) (hv : w.heap[vb]? = some (.cells v.cells.toArray 25 (0, 0))) (hvb : ∀ q, sv.ownBlock = some q → q ≠ vb) :
    Calls Tryd.prog 36 #[sv, .int .i64 i, .slice (some ⟨vb, 0, none⟩) 1 1] w fun e w' => ∃ r, e = .returned r ∧ w'.ownsRow base 25 6 r (n + 1) (frC (insAt l i v)) ∧ Below base w w' := by
  by_cases hin : i = n
  · subst hin
    exact insert_end sv i vb base l v w hl hn hO hb (fun j u hj => by rw [Nat.zero_add, cell_of_row w vb _ _ _ _ hv, List.getElem?_toArray]; exact hj)
  · have hO' := hO
    rcases hO.2 with ⟨h1, h2⟩ | ⟨g, cap, cur, h1, hbg, hg, hc, hm, hsz, htk⟩
    · omega
    · subst h1
      have hvg : vb ≠ g := fun e => hvb g rfl e.symm
      have hgc : w.heap[g]? = some (.cells cur.toList.toArray 25 (0, 0)) := by rw [Array.toArray_toList]; exact hg
      by_cases hroom : n + 1 ≤ cap
      · exact insert_shift g n cap i vb base l v w hl hn (by omega) hroom (by unfold maxLen at hm; omega) cur.toList hgc (by rw [Array.length_toList]; exact hsz) htk hbg hv hvg
      · exact insert_grow g n cap i vb base l v w hl hn (by omega) hc (by omega) cur.toList hgc htk hb hv
end Bw
end Go.Proofs.YthdffdobkampaaaDoor

/- What the document's own PutFrame answers of right frames. -/
namespace Go.Proofs.YthdffdobkampaaaDoor
open Go.ChangeShapes Go.WideShapes Go.ChangeAt Go.RowKit
namespace Bw
open Bm Cm Go.Sort
theorem le_not (a b : List UInt8) : (Op.bytesLess a b || a == b) = !Op.bytesLess b a := by
  rcases Bool.eq_false_or_eq_true (Op.bytesLess b a) with h | h
  · rw [h, less_not h]
    have : (a == b) = false := by
      have := less_ne h
      simp only [beq_eq_false_iff_ne, ne_eq]
      exact fun e => this e.symm
    rw [this]; rfl
  · rw [h]
    rcases Bool.eq_false_or_eq_true (Op.bytesLess a b) with h' | h'
    · rw [h']; rfl
    · rw [h', less_tot a b h' h]; simp
theorem leqQ (s1 s2 : List UInt8) (q : Bool) (h : Op.bytesLess s2 s1 = q) (W : World) : (binOp .leq 9 (.string ⟨s1.toArray⟩) (.string ⟨s2.toArray⟩)).run Tryd.prog W = .ok (.bool !q) W := by
  have e : binOp .leq 9 (.string ⟨s1.toArray⟩) (.string ⟨s2.toArray⟩) = pure (.bool (Op.bytesLess (ByteArray.mk s1.toArray).toList (ByteArray.mk s2.toArray).toList || (ByteArray.mk s1.toArray).toList == (ByteArray.mk s2.toArray).toList)) := by simp [binOp, Op.stringOp]
  rw [e, ByteArray.toList_eq, ByteArray.toList_eq]
  have := le_not s1 s2
  rw [h] at this
  show (pure (Value.bool (Op.bytesLess s1 s2 || s1 == s2)) : Sem Value).run Tryd.prog W = _
  rw [this]; rfl
theorem FrAt.keptB {B : Nat} {w w' : World} {g : Nat} {id : Int} {lo fa re : Bool} {sz : Int} {a : Option Addr} {len cap : Nat} (h : FrAt w g id lo fa re sz a len cap) (hb : Below B w w') (hg : g < B) : FrAt w' g id lo fa re sz a len cap := by
  have e : ∀ k, w'.cell? ⟨g, k, none⟩ = w.cell? ⟨g, k, none⟩ := fun k => hb.cell (show (⟨g, k, none⟩ : Addr).block < B from hg)
  exact ⟨by rw [e]; exact h.c0, by rw [e]; exact h.c1, by rw [e]; exact h.c2, by rw [e]; exact h.c3, by rw [e]; exact h.c4, by rw [e]; exact h.c5⟩
theorem owns_baseQ {w : World} {base base' : Nat} {e : TypeId} {size : Nat} {v : Value} {n : Nat} {xs : List Value} (h : w.ownsRow base e size v n xs) (hb : base' ≤ base) : w.ownsRow base' e size v n xs := by
  obtain ⟨h1, h2⟩ := h
  refine ⟨h1, ?_⟩
  rcases h2 with h2 | ⟨g, cap, cur, hv, hg, r⟩
  · exact Or.inl h2
  · exact Or.inr ⟨g, cap, cur, hv, Nat.le_trans hb hg, r⟩
/-- slices.Clone of frames, whatever they are -/
theorem clone_any (a : Option Addr) (n cap : Nat) (l : List FrV) (w : World) (hF : IsFrames w a n cap l) (hn : n ≤ 1000) :
    Calls Tryd.prog 20 #[.slice a n cap] w fun e w' => ∃ r, e = .returned r ∧ w'.ownsRow w.heap.size 25 6 r n (frC l) ∧ Below w.heap.size w w' := by
  cases a with
  | none =>
    have h0 := hF.none rfl
    subst h0
    have hl : l = [] := List.eq_nil_of_length_eq_zero hF.len
    subst hl
    refine (clone_nil w cap).mono ?_
    rintro e w' ⟨rfl, rfl⟩
    exact ⟨_, rfl, World.ownsRow_nil _ _ _ _, Below.refl _ _⟩
  | some x =>
    refine (clone_some x n cap l w hF (by omega)).mono ?_
    rintro e w' ⟨g, c, rfl, h1, h2⟩
    exact ⟨_, rfl, h1, h2⟩
theorem frames_of_row {w : World} {base n : Nat} {r : Value} {l : List FrV} (h : w.ownsRow base 25 6 r n (frC l)) (hn : l.length = n) (hy : ∀ v ∈ l, IsBytes w v.a v.len v.cap v.f.dt) : ∃ a cap, r = .slice a n cap ∧ IsFrames w a n cap l := by
  subst hn
  have h0 := h
  rcases h.2 with ⟨h1, h2⟩ | ⟨g, cap, cur, h1, hg, hh, hc, hm, hsz, htk⟩
  · have hl : l = [] := List.eq_nil_of_length_eq_zero h2
    subst hl
    exact ⟨none, 0, h1, rfl, Nat.le_refl _, Nat.zero_le _, fun _ => rfl, (fun x hx => by cases hx), fun i hi => absurd hi (Nat.not_lt_zero _)⟩
  · refine ⟨some ⟨g, 0, none⟩, cap, h1, rfl, hc, hm, (fun e => by cases e), ?_, fun i hi => hy _ (List.getElem_mem hi)⟩
    intro x hx i hi k hk
    cases hx
    exact h0.cells (by rw [h1]; rfl) (i * 6 + k) _ (frC_at l i k hi hk)
set_option maxHeartbeats 2000000 in
set_option maxRecDepth 100000 in
theorem putFrame_any (a : Option Addr) (n cap : Nat) (l : List FrV) (v : FrV) (w : World) (hD : w.cell? ⟨4, 1, none⟩ = some (.int .u8 1)) (hF : IsFrames w a n cap l) (hn : n ≤ 1000) (hY : IsBytes w v.a v.len v.cap v.f.dt) (hE : ∀ u ∈ l, frE u.f = 0) (hEv : frE v.f = 0) :
    Calls Tryd.prog 18 #[.slice a n cap, frameV v.f.id v.f.lo v.f.fa v.f.re v.f.sz v.a v.len v.cap] w fun e w' => ∃ r c, e = .returned (.slice r (n + 1) c) ∧ IsFrames w' r (n + 1) c (putV l v) ∧ Below w.heap.size w w' := by
  have hlen := hF.len
  have hid := frE_ok hEv
  have hmx : n ≤ maxLen := Nat.le_trans hF.le hF.max
  obtain ⟨⟨id, lo, fa, re, sz, dt⟩, va, vl, vc⟩ := v
  simp only at hid hY ⊢
  have hbx := below_box w id lo fa re sz va vl vc
  have hKx := FrAt.box w id lo fa re sz va vl vc
  have hn1 := fun W (hW : Below w.heap.size w W) => nameOf_any ⟨id, lo, fa, re, sz, dt⟩ va vl vc W (cell_kept hW hD) hid.1 hid.2.1
  have hpv : putV l ⟨⟨id, lo, fa, re, sz, dt⟩, va, vl, vc⟩ = insAt l (atE (nameL ⟨id, lo, fa, re, sz, dt⟩) ((l.map (·.f)).map nameL) n) ⟨⟨id, lo, fa, re, sz, dt⟩, va, vl, vc⟩ := by unfold putV atF; rw [List.length_map, hlen]
  rw [hpv]
  obtain ⟨nm, hnm⟩ : ∃ nm, nm = nameL ⟨id, lo, fa, re, sz, dt⟩ := ⟨_, rfl⟩
  rw [← hnm] at hn1 ⊢
  have HN1 := Hid.mk hn1
  have HKX := Hid.mk hKx
  have HBX := Hid.mk hbx
  have HF := Hid.mk hF
  have HD := Hid.mk hD
  have HY := Hid.mk hY
  have HE := Hid.mk hE
  have HLEN := Hid.mk hlen
  unfold frameV at HN1 ⊢
  simp only at HN1
  unfold frameC at HKX HBX
  clear hbx hKx hn1 hF hD hid hpv hnm hY hE hEv hlen
  obtain ⟨NS, hNS⟩ : ∃ NS, NS = (l.map (·.f)).map nameL := ⟨_, rfl⟩
  rw [← hNS]
  have HNS := Hid.mk hNS
  clear hNS
  go_enter Tryd.func18, Tryd.ntmps18
  go_wp2_with fail
  go_loopw [5, 10] (fun at_ i wr => ∃ (k : Nat), k ≤ n ∧ i = .int .i64 k ∧ at_ = .int .i64 (atE nm NS k) ∧ Hid (FrAt wr w.heap.size id lo fa re sz va vl vc) ∧ Hid (Below w.heap.size w wr)) (fun _ i _ => n - (intOf i).toNat)
  case atStart => exact ⟨0, Nat.zero_le _, rfl, rfl, HKX, HBX⟩
  case round =>
    obtain ⟨k, hk, rfl, rfl, HK, HB⟩ := hrel
    by_cases hlt : k < n
    · have hlt' : (k : Int) < (n : Int) := by omega
      have hkl : k < l.length := by rw [HLEN.out]; exact hlt
      cases a with
      | none => exact absurd (HF.out.none rfl) (by omega)
      | some x =>
        have cc := fun (j : Nat) (hj : j < 6) => cell_kept HB.out (HF.out.cell x rfl k hkl j hj)
        have hE1 := HE.out _ (List.getElem_mem hkl)
        have hnk : NS.getD k [] = nameL l[k].f := by rw [HNS.out]; simp [List.getD, hkl]
        generalize l[k] = u at *
        obtain ⟨⟨id', lo', fa', re', sz', dt'⟩, ua, ul, uc⟩ := u
        simp only at hE1 hnk
        have hid' := frE_ok hE1
        have hn2 := fun W (hW : Below w.heap.size w W) => nameOf_any ⟨id', lo', fa', re', sz', dt'⟩ ua ul uc W (cell_kept hW HD.out) hid'.1 hid'.2.1
        obtain ⟨pn, hpn⟩ : ∃ pn, pn = nameL ⟨id', lo', fa', re', sz', dt'⟩ := ⟨_, rfl⟩
        rw [← hpn] at hn2 hnk
        have hat : atE nm NS (k + 1) = if Op.bytesLess nm pn = true then atE nm NS k else k + 1 := by
          show (if Op.bytesLess nm (NS.getD k []) = true then _ else _) = _
          rw [hnk]
        have hle := atE_le nm NS k
        have c0 := cc 0 (by omega)
        have c1 := cc 1 (by omega)
        have c2 := cc 2 (by omega)
        have c3 := cc 3 (by omega)
        have c4 := cc 4 (by omega)
        have c5 := cc 5 (by omega)
        rw [add_nextQ] at c1 c2 c3 c4 c5
        rw [Nat.add_zero] at c0
        simp only [FrV.cells, List.getElem_cons_zero, List.getElem_cons_succ, Nat.reduceAdd] at c0 c1 c2 c3 c4 c5
        have hb2 := below_box wr id' lo' fa' re' sz' ua ul uc
        have HK2 := Hid.mk (FrAt.box wr id' lo' fa' re' sz' ua ul uc)
        have HK1 := Hid.mk (HK.out.kept hb2)
        have HB2 := Hid.mk (bl2 HB.out hb2)
        have HN2 := Hid.mk hn2
        have HAT := Hid.mk hat
        unfold frameV at HN2
        simp only at HN2
        unfold frameC at HK2 HK1 HB2
        clear cc hE1 hnk hid' hn2 hpn hat hb2
        go_wp2_with fail
        generalize hw2 : wr.alloc (Obj.cells #[.int .i64 id', .bool lo', .bool fa', .bool re', .int .i64 sz', .slice ua ul uc] 25) = w2 at *
        clear hw2 c0 c1 c2 c3 c4 c5
        have rf0 := fun d os => (HK1.out.regrownQ d os).c0
        have rf1 := fun d os => (HK1.out.regrownQ d os).c1
        have rf2 := fun d os => (HK1.out.regrownQ d os).c2
        have rf3 := fun d os => (HK1.out.regrownQ d os).c3
        have rf4 := fun d os => (HK1.out.regrownQ d os).c4
        have rf5 := fun d os => (HK1.out.regrownQ d os).c5
        have rg0 := fun d os => (HK2.out.regrownQ d os).c0
        have rg1 := fun d os => (HK2.out.regrownQ d os).c1
        have rg2 := fun d os => (HK2.out.regrownQ d os).c2
        have rg3 := fun d os => (HK2.out.regrownQ d os).c3
        have rg4 := fun d os => (HK2.out.regrownQ d os).c4
        have rg5 := fun d os => (HK2.out.regrownQ d os).c5
        have HBR := Hid.mk (fun d os => bl2 HB2.out (below_regrown w2 d os))
        obtain ⟨q, hq⟩ : ∃ q, Op.bytesLess nm pn = q := ⟨_, rfl⟩
        have hlq := fun W => leqQ pn nm q hq W
        rw [hq] at HAT
        clear hq
        refine wp_region_quiet_below (by kernel_rfl) (by kernel_rfl) ?_
        repeat (go_big_quiet_step (first
          | (go_at_call 19; with_reducible_and_instances exact Calls.regrown_of (HN1.out _ (HBR.out _ _)))
          | (go_at_call 19; with_reducible_and_instances exact Calls.regrown_of (HN2.out _ (HBR.out _ _)))))
        refine wpQuiet_nil ?_
        intro _ hw'
        obtain ⟨⟨dq, osq⟩, hw''⟩ := hw'
        have hbq := below_regrown w2 dq osq
        rw [hw'']
        generalize grow (redrawn w2 dq) osq = w4 at *
        have HB4 := Hid.mk (bl2 HB2.out hbq)
        have HK4 := Hid.mk (HK1.out.kept hbq)
        clear hw'' hbq rf0 rf1 rf2 rf3 rf4 rf5 rg0 rg1 rg2 rg3 rg4 rg5 HBR hlq
        cases q
        · rw [if_neg (by decide)] at HAT
          go_wp2_with fail
          go_roundw
          case rel => exact ⟨k + 1, by omega, by go_num, (by first | (rw [HAT.out]; done) | (rw [HAT.out]; go_num)), HK4, HB4⟩
          case measure => simp [intOf]; omega
        · rw [if_pos rfl] at HAT
          go_wp2_with fail
          go_roundw
          case rel => exact ⟨k + 1, by omega, by go_num, (by first | (rw [HAT.out]; done) | (rw [HAT.out]; go_num) | (rw [HAT.out]; rfl)), HK4, HB4⟩
          case measure => simp [intOf]; omega
    · obtain rfl : k = n := by omega
      obtain ⟨A, hA⟩ : ∃ A, A = atE nm NS k := ⟨_, rfl⟩
      have hAk : A ≤ k := by rw [hA]; exact atE_le _ _ _
      have HAE := Hid.mk hA
      rw [← hA]
      clear hA
      have HCL := Hid.mk (fun W (hW : Below w.heap.size w W) => clone_any a k cap l W (HF.out.kept hW) hn)
      have HIN := Hid.mk (fun W sv vb base hO hb hv hvb => insert_any sv k A vb base l ⟨⟨id, lo, fa, re, sz, dt⟩, va, vl, vc⟩ W HLEN.out hn hAk hO hb hv hvb)
      have HBd := Hid.mk (HB.out.trans (show Below w.heap.size wr wr.drew from ⟨rfl, rfl, rfl, Nat.le_refl _, fun _ _ => rfl⟩))
      have HFIN := Hid.mk (show ∀ (W : World) r, W.ownsRow w.heap.size 25 6 r (k + 1) (frC (insAt l A ⟨⟨id, lo, fa, re, sz, dt⟩, va, vl, vc⟩)) → Below w.heap.size w W → ∃ r' c, Ending.returned r = .returned (.slice r' (k + 1) c) ∧ IsFrames W r' (k + 1) c (insAt l (atE nm NS k) ⟨⟨id, lo, fa, re, sz, dt⟩, va, vl, vc⟩) ∧ Below w.heap.size w W from fun W r hO hb => by
        rw [HAE.out] at hO
        obtain ⟨r', c, rfl, h1⟩ := frames_of_row hO (by rw [insAt_len, HLEN.out]) (fun u hu => by
          rcases (insAt_mem _ _ _ _).1 hu with rfl | hu
          · exact isBytes_below HY.out hb
          · exact isBytes_below (HF.out.all u hu) hb)
        exact ⟨r', c, rfl, h1, hb⟩)
      go_wp2_with fail
      refine wp_region_held_drew (S := fun W => FrAt W w.heap.size id lo fa re sz va vl vc) (by kernel_rfl) (HK.out.kept ⟨rfl, rfl, rfl, Nat.le_refl _, fun _ _ => rfl⟩) (fun hHeld => ?_)
      refine wpAnyH_take (i := 0) (v := .slice a k cap) rfl (by kernel_rfl) (by kernel_rfl) (by kernel_rfl) (fun _ _ _ h => h) (Or.inl ⟨by rfl, fun _ _ => rfl⟩) hHeld ?_
      simp only [List.getElem_toArray, List.getElem_cons_zero, Act.put, List.setIfInBounds_toArray, List.set_cons_zero, List.set_cons_succ]
      refine wpAnyH_take (i := 2) (v := .int .i64 A) rfl (by kernel_rfl) (by kernel_rfl) (by kernel_rfl) (fun _ _ _ h => h) (Or.inl ⟨by rfl, fun _ _ => rfl⟩) hHeld ?_
      simp only [List.getElem_toArray, List.getElem_cons_zero, List.getElem_cons_succ, Act.put, List.setIfInBounds_toArray, List.set_cons_zero, List.set_cons_succ]
      refine wpAnyH_take (i := 3) rfl (by kernel_rfl) (by kernel_rfl) (by kernel_rfl) (fun _ _ _ h => h) (yieldsIf_load_mid (by rfl) _ _ rfl _ _ rfl _ _ (fun W hW => range_fr hW) Tryd.underlying25 rfl fr_info) hHeld ?_
      simp only [List.getElem_toArray, List.getElem_cons_zero, List.getElem_cons_succ, Act.put, List.setIfInBounds_toArray, List.set_cons_zero, List.set_cons_succ]
      refine wpAnyH_ready (rs := [1, 4]) (by kernel_rfl) (by simp) ?_
      refine AllReadyH.cons rfl (fun K hK => ?_) (AllReadyH.cons rfl (fun K hK => ?_) AllReadyH.nil)
      · rw [if_pos (by rfl)]
        go_wp2_with fail
        refine (HCL.out _ HBd.out).mono ?_
        rintro e w1 ⟨r1, rfl, ho1, hb1⟩
        refine hK.out _ _ (hHeld.kept hb1) (fun hHeld1 => ?_)
        clear hK K
        refine wpAnyH_ready (rs := [4]) (by kernel_rfl) (by simp) ?_
        refine AllReadyH.cons rfl (fun K hK => ?_) AllReadyH.nil
        rw [if_pos (by rfl)]
        go_wp2_with fail
        have hba : Below w1.heap.size w1 (w1.alloc (Obj.cells #[.int .i64 id, .bool lo, .bool fa, .bool re, .int .i64 sz, .slice va vl vc] 25)) := (Below.refl _ _).alloc (Nat.le_refl _) _
        refine hK.out _ _ (hHeld1.kept hba) (fun hHeld2 => ?_)
        clear hK K
        refine wpAnyH_ready (rs := [5]) (by kernel_rfl) (by simp) ?_
        refine AllReadyH.cons rfl (fun K hK => ?_) AllReadyH.nil
        rw [if_pos (by rfl)]
        go_wp2_with fail
        refine (HIN.out _ r1 w1.heap.size wr.drew.heap.size (ho1.alloc _) (Nat.le_trans hb1.size hba.size) (heap_alloc_new w1 _) (fun q hq e => by have := own_lt ho1 q hq; omega)).mono ?_
        rintro e w3 ⟨r3, rfl, ho3, hb3⟩
        have hbase : w.heap.size < wr.drew.heap.size := block_lt_of_cell HK.out.c0
        refine hK.out _ _ (FrAt.keptB hHeld2 hb3 hbase) (fun hHeld3 => ?_)
        clear hK K
        refine wpAnyH_take (i := 6) (v := r3) rfl (by kernel_rfl) (by kernel_rfl) (by kernel_rfl) (fun _ _ _ h => h) (Or.inl ⟨by rfl, fun _ _ => rfl⟩) hHeld3 ?_
        simp only [List.getElem_toArray, List.getElem_cons_zero, List.getElem_cons_succ, Act.put, List.setIfInBounds_toArray, List.set_cons_zero, List.set_cons_succ]
        refine wpAnyH_done (by kernel_rfl) ?_ _
        have hfin := HFIN.out w3 r3 (owns_baseQ ho3 (Nat.le_of_lt hbase)) ((bl2 (bl2 HBd.out hb1) hba).trans (hb3.mono (Nat.le_of_lt hbase)))
        go_wp2_with fail
        go_ret
        exact hfin
      · rw [if_pos (by rfl)]
        go_wp2_with fail
        have hba : Below wr.heap.size wr (wr.alloc (Obj.cells #[.int .i64 id, .bool lo, .bool fa, .bool re, .int .i64 sz, .slice va vl vc] 25)).drew := ((Below.refl _ _).alloc (Nat.le_refl _) _).trans ⟨rfl, rfl, rfl, Nat.le_refl _, fun _ _ => rfl⟩
        have HB2 := Hid.mk (bl2 HB.out hba)
        have hlt2 : wr.heap.size < (wr.alloc (Obj.cells #[.int .i64 id, .bool lo, .bool fa, .bool re, .int .i64 sz, .slice va vl vc] 25)).drew.heap.size := by simp
        refine hK.out _ _ (HK.out.kept hba) (fun hHeld1 => ?_)
        clear hK K
        refine wpAnyH_ready (rs := [1]) (by kernel_rfl) (by simp) ?_
        refine AllReadyH.cons rfl (fun K hK => ?_) AllReadyH.nil
        rw [if_pos (by rfl)]
        go_wp2_with fail
        refine (HCL.out _ HB2.out).mono ?_
        rintro e w1 ⟨r1, rfl, ho1, hb1⟩
        refine hK.out _ _ (hHeld1.kept hb1) (fun hHeld2 => ?_)
        clear hK K
        refine wpAnyH_ready (rs := [5]) (by kernel_rfl) (by simp) ?_
        refine AllReadyH.cons rfl (fun K hK => ?_) AllReadyH.nil
        rw [if_pos (by rfl)]
        go_wp2_with fail
        refine (HIN.out _ r1 wr.heap.size (wr.alloc (Obj.cells #[.int .i64 id, .bool lo, .bool fa, .bool re, .int .i64 sz, .slice va vl vc] 25)).drew.heap.size ho1 hb1.size ((hb1.block wr.heap.size hlt2).trans (heap_alloc_new wr _)) (fun q hq e => by have := (ho1.lt q hq).1; omega)).mono ?_
        rintro e w3 ⟨r3, rfl, ho3, hb3⟩
        have hbase : w.heap.size < (wr.alloc (Obj.cells #[.int .i64 id, .bool lo, .bool fa, .bool re, .int .i64 sz, .slice va vl vc] 25)).drew.heap.size := Nat.lt_of_lt_of_le (block_lt_of_cell HK.out.c0) (Nat.le_of_lt hlt2)
        refine hK.out _ _ (FrAt.keptB hHeld2 hb3 hbase) (fun hHeld3 => ?_)
        clear hK K
        refine wpAnyH_take (i := 6) (v := r3) rfl (by kernel_rfl) (by kernel_rfl) (by kernel_rfl) (fun _ _ _ h => h) (Or.inl ⟨by rfl, fun _ _ => rfl⟩) hHeld3 ?_
        simp only [List.getElem_toArray, List.getElem_cons_zero, List.getElem_cons_succ, Act.put, List.setIfInBounds_toArray, List.set_cons_zero, List.set_cons_succ]
        refine wpAnyH_done (by kernel_rfl) ?_ _
        have hfin := HFIN.out w3 r3 (owns_baseQ ho3 (Nat.le_of_lt hbase)) ((bl2 HB2.out hb1).trans (hb3.mono (Nat.le_of_lt hbase)))
        go_wp2_with fail
        go_ret
        exact hfin
end Bw
end Go.Proofs.YthdffdobkampaaaDoor

/- What slices.Equal answers of two slices that hold the same bytes: true. -/
namespace Go.Proofs.YthdffdobkampaaaDoor
open Go.ChangeShapes Go.WideShapes Go.ChangeAt Go.RowKit
namespace Bw
open Bm

def HasBytes (w : World) (a : Option Addr) (n : Nat) (l : List UInt8) : Prop :=
  (a = none → n = 0) ∧ ∀ x, a = some x → ∀ i, i < n → w.cell? (x.add i) = some (.int .u8 (l.getD i 0).toNat)

set_option maxHeartbeats 1000000 in
theorem equalB_true (w : World) (a b : Option Addr) (n c d : Nat) (l : List UInt8) (hn : n ≤ maxLen) (ha : HasBytes w a n l) (hb : HasBytes w b n l) :
    Calls Tryd.prog 33 #[.slice a n c, .slice b n d] w fun e w' => e = .returned (.bool true) ∧ Below w.heap.size w w' := by
  have HA := Hid.mk ha
  have HB := Hid.mk hb
  unfold maxLen at hn
  clear ha hb
  go_enter Tryd.func33, Tryd.ntmps33
  go_wp2
  go_loopw [13] (fun i w' => ∃ k : Nat, k ≤ n ∧ i = .int .i64 k ∧ ∃ m, w' = w.drewN m) (fun i _ => n - (intOf i).toNat)
  case atStart => exact ⟨0, Nat.zero_le _, rfl, 0, rfl⟩
  case round =>
    obtain ⟨k, hk, rfl, m, rfl⟩ := hrel
    by_cases hlt : k < n
    · cases a with
      | none => exact absurd (HA.out.1 rfl) (by omega)
      | some x =>
        cases b with
        | none => exact absurd (HB.out.1 rfl) (by omega)
        | some y =>
          have g1 := HA.out.2 x rfl k hlt
          have g2 := HB.out.2 y rfl k hlt
          have hlt' : (k : Int) < (n : Int) := by omega
          go_wp2
          go_quiet (fail)
          go_wp2
          go_roundw
          case rel => exact ⟨k + 1, by omega, by go_num, _, rfl⟩
          case measure => simp [intOf]; omega
    · go_wp2
      go_ret
      exact ⟨rfl, ⟨rfl, rfl, rfl, Nat.le_refl _, fun _ _ => rfl⟩⟩
end Bw
end Go.Proofs.YthdffdobkampaaaDoor

/- What the document's own SameFrame answers of frames that are alike. -/
namespace Go.Proofs.YthdffdobkampaaaDoor
open Go.ChangeShapes Go.WideShapes Go.ChangeAt Go.RowKit
namespace Bw
open Bm Cm

set_option maxHeartbeats 8000000 in
theorem sameFrame_true (f : Fr) (a1 a2 : Option Addr) (n1 c1 n2 c2 : Nat) (w : World) (h1 : IsBytes w a1 n1 c1 f.dt) (h2 : IsBytes w a2 n2 c2 f.dt) :
    Calls Tryd.prog 16 #[frameV f.id f.lo f.fa f.re f.sz a1 n1 c1, frameV f.id f.lo f.fa f.re f.sz a2 n2 c2] w fun e w' => e = .returned (.bool true) ∧ Below w.heap.size w w' := by
  obtain ⟨id, lo, fa, re, sz, dt⟩ := f
  simp only at h1 h2 ⊢
  have hB1 := below_box w id lo fa re sz a1 n1 c1
  have hB2 := below_box (w.alloc (frameC id lo fa re sz a1 n1 c1)) id lo fa re sz a2 n2 c2
  have hB := bl2 hB1 hB2
  have hn : n1 = n2 := h1.1.symm.trans h2.1
  subst hn
  have hmx : n1 ≤ maxLen := by have := h1.2.1; have := h1.2.2.1; omega
  have hY1 := isBytes_below h1 hB
  have hY2 := isBytes_below h2 hB
  have hbe := equalB_true _ a1 a2 n1 c1 c2 dt hmx ⟨hY1.2.2.2.1, hY1.2.2.2.2⟩ ⟨hY2.2.2.2.1, hY2.2.2.2.2⟩
  have HBE := Hid.mk hbe
  have HB := Hid.mk hB
  unfold frameC at HBE HB
  unfold frameV
  clear h1 h2 hB1 hB2 hB hbe hY1 hY2 hmx
  go_enter Tryd.func16, Tryd.ntmps16
  go_wp2_with fail
  refine HBE.out.mono ?_
  rintro e w1 ⟨rfl, hb1⟩
  have hbel := bl2 HB.out hb1
  clear hb1
  go_wp2_with fail
  go_ret
  exact ⟨rfl, hbel⟩
end Bw
end Go.Proofs.YthdffdobkampaaaDoor
