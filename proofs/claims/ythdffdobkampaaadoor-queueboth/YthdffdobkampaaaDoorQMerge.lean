/- What queue.Merge answers. -/
import Derived.Test.YthdffdobkampaaaDoorQTake
namespace Go.Proofs.YthdffdobkampaaaDoor
open Go.ChangeShapes Go.WideShapes Go.ChangeAt Go.RowKit
namespace Bw
open Bm Cm
def mrgV (a b : List FrV) : List FrV := b.foldl putV a
theorem mrgV_f (b : List FrV) : ∀ a, (mrgV a b).map (·.f) = mrgF (a.map (·.f)) (b.map (·.f)) := by
  induction b with
  | nil => intro a; rfl
  | cons v b ih => intro a; show (mrgV (putV a v) b).map (·.f) = mrgF (putF (a.map (·.f)) v.f) (b.map (·.f)); rw [ih, putV_f]
theorem mrgV_len (b : List FrV) : ∀ a, (mrgV a b).length = a.length + b.length := by
  induction b with
  | nil => intro a; rfl
  | cons v b ih => intro a; show (mrgV (putV a v) b).length = _; rw [ih, putV_len, List.length_cons]; omega
theorem mrgV_mem (b : List FrV) : ∀ a y, y ∈ mrgV a b → y ∈ a ∨ y ∈ b := by
  induction b with
  | nil => intro a y h; exact .inl h
  | cons v b ih =>
    intro a y h
    rcases ih (putV a v) y h with h | h
    · rcases (insAt_mem a _ v y).1 h with h | h
      · exact .inr (List.mem_cons.2 (.inl h))
      · exact .inl h
    · exact .inr (List.mem_cons.2 (.inr h))
theorem mrgV_next (a b : List FrV) (k : Nat) (h : k < b.length) : mrgV a (b.take (k + 1)) = putV (mrgV a (b.take k)) b[k] := by
  unfold mrgV
  rw [List.take_succ_eq_append_getElem h, List.foldl_append]; rfl
/-- the line of two queues, k of the second one put in -/
def mgA (a b : List FrV) (k : Nat) : List Ent := (mrgV a (b.take k)).map entOf ++ List.replicate (32 - a.length - k) zE
theorem mgA_len (a b : List FrV) (k : Nat) (hk : k ≤ b.length) (h : a.length + k ≤ 32) : (mgA a b k).length = 32 := by
  unfold mgA
  rw [List.length_append, List.length_map, mrgV_len, List.length_take, List.length_replicate]; omega
theorem mgA_zero (a b : List FrV) : mgA a b 0 = padA a a.length := by
  unfold mgA padA
  rw [List.take_length]
  rfl
theorem with_mg (a b : List FrV) (k : Nat) (w : World) (hk : k < b.length) (ha : a.length ≤ 16) (hb : b.length ≤ 16) :
    Calls Tryd.prog 38 #[.agg (lnC (mgA a b k) ((a.length + k : Nat) : Int)).toArray, .agg (entOf b[k]).cells.toArray] w fun e w' => e = .returned (.agg (lnC (mgA a b (k + 1)) ((a.length + (k + 1) : Nat) : Int)).toArray) ∧ Below w.heap.size w w' := by
  have hl : (mrgV a (b.take k)).length = a.length + k := by rw [mrgV_len, List.length_take]; omega
  have h := with_line (mrgV a (b.take k)) (List.replicate (32 - a.length - k) zE) b[k] w (by rw [hl, List.length_replicate]; omega) (by rw [List.length_replicate]; omega)
  rw [← mrgV_next a b k hk, List.drop_replicate, hl, mrgV_len, List.length_take] at h
  have e1 : 32 - a.length - k - 1 = 32 - a.length - (k + 1) := by omega
  have e2 : a.length + min (k + 1) b.length = a.length + (k + 1) := by omega
  rw [e1, e2] at h
  exact h
theorem mg_end (a b : List FrV) : mgA a b b.length = (((mrgV a b).take 16).map entOf) ++ (((mrgV a b).drop 16).map entOf ++ List.replicate (32 - a.length - b.length) zE) := by
  unfold mgA
  rw [List.take_length, ← List.append_assoc, ← List.map_append, List.take_append_drop]
def mrgE (a b : List Fr) : Int := if chkQ a = 0 then chkQ b else chkQ a
set_option maxHeartbeats 1000000 in
set_option maxRecDepth 100000 in
theorem merge_bad (a : Option Addr) (n cap : Nat) (l : List FrV) (a' : Option Addr) (n' cap' : Nat) (l' : List FrV) (w : World) (hS : SizesAt w) (hF : IsFrames w a n cap l) (hF' : IsFrames w a' n' cap' l') (hq : mrgE (l.map (·.f)) (l'.map (·.f)) ≠ 0) :
    Calls Tryd.prog 21 #[.slice a n cap, .slice a' n' cap'] w fun e w' => e = .returned (.tuple #[.slice none 0 0, .int .i64 0, .int .i64 (mrgE (l.map (·.f)) (l'.map (·.f)))]) ∧ Below w.heap.size w w' := by
  have h1 := lineOf_any a n cap l w hS hF
  have h2 := fun W (hb : Below w.heap.size w W) => lineOf_any a' n' cap' l' W (hS.kept hb) (hF'.kept hb)
  obtain ⟨B, m, hB, hBl⟩ := lineL_shape l
  obtain ⟨B', m', hB', hBl'⟩ := lineL_shape l'
  rw [hB] at h1
  rw [hB'] at h2
  by_cases hc : chkQ (l.map (·.f)) = 0
  · have e0 : mrgE (l.map (·.f)) (l'.map (·.f)) = chkQ (l'.map (·.f)) := by unfold mrgE; rw [if_pos hc]
    rw [e0] at hq ⊢
    rw [hc] at h1
    have hne : (chkQ (l'.map (·.f)) != 0) = true := by simpa using hq
    generalize chkQ (l'.map (·.f)) = ce at *
    have H1 := Hid.mk h1
    have H2 := Hid.mk h2
    clear h1 h2 hS hF hF' hB hB' e0 hc
    go_enter Tryd.func21, Tryd.ntmps21
    go_wp2_with fail
    refine H1.out.mono ?_
    rintro e w1 ⟨rfl, hb1⟩
    have HB1 := Hid.mk hb1
    clear hb1
    go_wp2_with (first | ((with_reducible_and_instances refine wpl_store_line (.tmp 7) (.tmp 15) w1.heap.size (List.replicate 32 zE) B 0 m ?_ ?_ (LnAt.zero w1) hBl ?_); rfl; rfl; intro w5 hL5 hT5; have HB5 := Hid.mk (Tch.below (bl2 HB1.out (below_zero w1)) hT5 (by simp; exact HB1.out.size) (Nat.le_refl _)); clear hL5 hT5))
    refine (H2.out _ HB5.out).mono ?_
    rintro e w6 ⟨rfl, hb6⟩
    have HB6 := Hid.mk (bl2 HB5.out hb6)
    clear hb6
    go_wp2_with (first | ((with_reducible_and_instances refine wpl_store_line (.tmp 9) (.tmp 23) w6.heap.size (List.replicate 32 zE) B' 0 m' ?_ ?_ (LnAt.zero w6) hBl' ?_); rfl; rfl; intro w7 hL7 hT7; have HB7 := Hid.mk (Tch.below (bl2 HB6.out (below_zero w6)) hT7 (by simp; exact HB6.out.size) (Nat.le_refl _)); clear hL7 hT7))
    go_ret3
    exact ⟨rfl, HB7.out⟩
  · have e0 : mrgE (l.map (·.f)) (l'.map (·.f)) = chkQ (l.map (·.f)) := by unfold mrgE; rw [if_neg hc]
    rw [e0]
    have hne : (chkQ (l.map (·.f)) != 0) = true := by simpa using hc
    generalize chkQ (l.map (·.f)) = ce at *
    have H1 := Hid.mk h1
    clear h1 h2 hS hF hF' hB hB' e0 hc hq
    go_enter Tryd.func21, Tryd.ntmps21
    go_wp2_with fail
    refine H1.out.mono ?_
    rintro e w1 ⟨rfl, hb1⟩
    have HB1 := Hid.mk hb1
    clear hb1
    go_wp2_with (first | ((with_reducible_and_instances refine wpl_store_line (.tmp 7) (.tmp 15) w1.heap.size (List.replicate 32 zE) B 0 m ?_ ?_ (LnAt.zero w1) hBl ?_); rfl; rfl; intro w5 hL5 hT5; have HB5 := Hid.mk (Tch.below (bl2 HB1.out (below_zero w1)) hT5 (by simp; exact HB1.out.size) (Nat.le_refl _)); clear hL5 hT5))
    go_ret3
    exact ⟨rfl, HB5.out⟩
set_option maxHeartbeats 2000000 in
set_option maxRecDepth 100000 in
theorem merge_ok (a : Option Addr) (n cap : Nat) (l : List FrV) (a' : Option Addr) (n' cap' : Nat) (l' : List FrV) (w : World) (hS : SizesAt w) (hF : IsFrames w a n cap l) (hF' : IsFrames w a' n' cap' l') (hc : chkQ (l.map (·.f)) = 0) (hc' : chkQ (l'.map (·.f)) = 0) :
    Calls Tryd.prog 21 #[.slice a n cap, .slice a' n' cap'] w fun e w' => ∃ r l2, e = .returned (.tuple #[r, .int .i64 ((n + n' - 16 : Nat) : Int), .int .i64 0]) ∧ l2.map (·.f) = (mrgF (l.map (·.f)) (l'.map (·.f))).take 16 ∧ OwnFrs w' w.heap.size r l2 ∧ Below w.heap.size w w' := by
  obtain ⟨q1, q2, _⟩ := chk_ok hc
  obtain ⟨q1', q2', _⟩ := chk_ok hc'
  rw [List.length_map] at q1 q1'
  have hn := hF.len
  have hn' := hF'.len
  have h1 := lineOf_any a n cap l w hS hF
  have h2 := fun W (hb : Below w.heap.size w W) => lineOf_any a' n' cap' l' W (hS.kept hb) (hF'.kept hb)
  rw [hc, show lineL l = lnC (padA l l.length) l.length by unfold lineL; rw [if_pos hc]] at h1
  rw [hc', show lineL l' = lnC (padA l' l'.length) l'.length by unfold lineL; rw [if_pos hc']] at h2
  have hYa := hF.all
  have hYa' := hF'.all
  have hmem : ∀ u ∈ mrgV l l', u ∈ l ∨ u ∈ l' := mrgV_mem l' l
  have hmlen := mrgV_len l' l
  have hfo := fun W (hb : Below w.heap.size w W) => framesOf_any ((mrgV l l').take 16) (((mrgV l l').drop 16).map entOf ++ List.replicate (32 - l.length - l'.length) zE) W (by simp only [List.length_append, List.length_map, List.length_take, List.length_drop, List.length_replicate]; omega) (fun u hu => by
      rcases hmem u (List.mem_of_mem_take hu) with h | h
      · exact isBytes_below (hYa u h) hb
      · exact isBytes_below (hYa' u h) hb) (fun u hu => by
      rcases hmem u (List.mem_of_mem_take hu) with h | h
      · exact q2 _ (List.mem_map_of_mem h)
      · exact q2' _ (List.mem_map_of_mem h))
  rw [← mg_end] at hfo
  have htl : ((mrgV l l').take 16).length = n + n' - (n + n' - 16) := by rw [List.length_take, hmlen]; omega
  have htf : ((mrgV l l').take 16).map (·.f) = (mrgF (l.map (·.f)) (l'.map (·.f))).take 16 := by rw [List.map_take, mrgV_f]
  rw [htl, htf, hn'] at hfo
  have hwm := fun (k : Nat) (hk : k < l'.length) W => with_mg l l' k W hk q1 q1'
  have hp0 : (padA l l.length) = mgA l l' 0 := (mgA_zero l l').symm
  rw [hp0] at h1
  have hgl : ∀ k, k ≤ n' → (mgA l l' k).length = 32 := fun k hk => mgA_len l l' k (by omega) (by omega)
  have hpl : (padA l' n').length = 32 := padA_len l' n' (by omega) (by omega)
  have hpe : ∀ k (hk : k < l'.length) (hk2 : k < (padA l' n').length), (padA l' n')[k]'hk2 = entOf l'[k] := fun k hk _ => padA_name l' n' k (by omega) (by omega) (by omega)
  rw [hn] at h1
  rw [hn'] at h2
  simp only [hn] at hwm
  have HWM := Hid.mk hwm
  have HFO := Hid.mk hfo
  have H1 := Hid.mk h1
  have H2 := Hid.mk h2
  have HPE := Hid.mk hpe
  have HGL := Hid.mk hgl
  have HPL := Hid.mk hpl
  have q3 : n ≤ 16 := by omega
  have q4 : n' ≤ 16 := by omega
  have HL' := Hid.mk hn'
  clear hF hF' hS hc hc' q2 q2' h1 h2 hYa hYa' hmem hmlen hfo htl htf hwm hp0 hgl hpl hpe hn hn' q1 q1'
  go_enter Tryd.func21, Tryd.ntmps21
  go_wp2_with fail
  refine H1.out.mono ?_
  rintro e w1 ⟨rfl, hb1⟩
  have HB1 := Hid.mk hb1
  clear hb1
  go_wp2_with (first | ((with_reducible_and_instances refine wpl_store_line (.tmp 7) (.tmp 15) w1.heap.size (List.replicate 32 zE) (mgA l l' 0) 0 n ?_ ?_ (LnAt.zero w1) (HGL.out 0 (Nat.zero_le _)) ?_); rfl; rfl; intro w5 hL5 hT5; have HL5 := Hid.mk hL5; have HB5 := Hid.mk (Tch.below (bl2 HB1.out (below_zero w1)) hT5 (by simp; exact HB1.out.size) (Nat.le_refl _)); clear hL5 hT5))
  refine (H2.out _ HB5.out).mono ?_
  rintro e w6 ⟨rfl, hb6⟩
  have HB6 := Hid.mk (bl2 HB5.out hb6)
  have HL6 := Hid.mk (HL5.out.kept (bl2 hb6 (below_zero w6)))
  have hl16 : w1.heap.size < w6.heap.size := (HL5.out.kept hb6).lt
  have hlw : w.heap.size ≤ w1.heap.size := HB1.out.size
  clear hb6
  go_wp2_with (first | ((with_reducible_and_instances refine wpl_store_line (.tmp 9) (.tmp 23) w6.heap.size (List.replicate 32 zE) (padA l' n') 0 n' ?_ ?_ (LnAt.zero w6) HPL.out ?_); rfl; rfl; intro w7 hL7 hT7; have c7 := hL7.size; have HL7 := Hid.mk hL7; have HM7 := Hid.mk (HL6.out.tch hT7 (by simp; omega)); have HB7 := Hid.mk (Tch.below (bl2 HB6.out (below_zero w6)) hT7 (by simp; omega) (Nat.le_refl _)); clear hL7 hT7))
  go_loopw [30] (fun i wr => ∃ (k : Nat), k ≤ n' ∧ i = .int .i64 k ∧ Hid (LnAt wr w1.heap.size (mgA l l' k) ((n + k : Nat) : Int)) ∧ Hid (LnAt wr w6.heap.size (padA l' n') n') ∧ Hid (Below w.heap.size w wr)) (fun i _ => n' - (intOf i).toNat)
  case atStart => exact ⟨0, Nat.zero_le _, rfl, HM7, HL7, HB7⟩
  case round =>
    obtain ⟨k, hk, rfl, HL, HM, HB⟩ := hrel
    by_cases hlt : k < n'
    · have hlt' : (k : Int) < (n' : Int) := by omega
      have hkl : k < l'.length := by have := HL'.out; omega
      have hk0 : (0 : Int) ≤ (k : Int) := by omega
      have hk32 : (k : Int) < 32 := by omega
      have HWK := Hid.mk (fun W => HWM.out k hkl W)
      have hrng : ∀ W, LnAt W w6.heap.size (padA l' n') n' → W.rangeAt w6.heap.size (k * 7) (entOf l'[k]).cells := by
        intro W hW j u hj
        have hj7 : j < 7 := (List.getElem?_eq_some_iff.1 hj).1
        have := hW.cell k j (by omega) hj7
        rw [HPE.out k hkl _] at this
        rw [this]; exact hj
      have HRN := Hid.mk hrng
      clear hrng
      go_wp2_with fail
      refine wp_region_held_drew (S := fun W => LnAt W w6.heap.size (padA l' n') n') (by kernel_rfl) ⟨HM.out.len, HM.out.row⟩ (fun hHeld => ?_)
      refine wpAnyH_take (i := 1) (v := .int .i64 k) rfl (by kernel_rfl) (by kernel_rfl) (by kernel_rfl) (fun _ _ _ h => h) (Or.inl ⟨by rfl, fun _ _ => rfl⟩) hHeld ?_
      simp only [List.getElem_toArray, List.getElem_cons_zero, List.getElem_cons_succ, Act.put, List.setIfInBounds_toArray, List.set_cons_zero, List.set_cons_succ]
      refine wpAnyH_take (i := 2) (v := .pointer (some ⟨w6.heap.size, 0, none⟩)) rfl (by kernel_rfl) (by kernel_rfl) (by kernel_rfl) (fun _ _ _ h => h) (Or.inl ⟨by rfl, fun W hW => by clear hW hHeld; go_simp⟩) hHeld ?_
      simp only [List.getElem_toArray, List.getElem_cons_zero, List.getElem_cons_succ, Act.put, List.setIfInBounds_toArray, List.set_cons_zero, List.set_cons_succ]
      refine wpAnyH_take (i := 3) (v := .pointer (some ⟨w6.heap.size, k * 7, none⟩)) rfl (by kernel_rfl) (by kernel_rfl) (by kernel_rfl) (fun _ _ _ h => h) (Or.inl ⟨by rfl, fun W hW => by clear hW hHeld; go_simp⟩) hHeld ?_
      simp only [List.getElem_toArray, List.getElem_cons_zero, List.getElem_cons_succ, Act.put, List.setIfInBounds_toArray, List.set_cons_zero, List.set_cons_succ]
      refine wpAnyH_take (i := 4) rfl (by kernel_rfl) (by kernel_rfl) (by kernel_rfl) (fun _ _ _ h => h) (yieldsIf_load_mid (by rfl) _ _ rfl w6.heap.size (k * 7) rfl (entOf l'[k]).cells _ (fun W hW => HRN.out W hW) Tryd.underlying52 rfl ent_info) hHeld ?_
      simp only [List.getElem_toArray, List.getElem_cons_zero, List.getElem_cons_succ, Act.put, List.setIfInBounds_toArray, List.set_cons_zero, List.set_cons_succ]
      refine wpAnyH_ready (rs := [0]) (by kernel_rfl) (by simp) ?_
      refine AllReadyH.cons rfl (fun K hK => ?_) AllReadyH.nil
      rw [if_pos (by rfl)]
      refine wp_load_mid 55 (.tmp 7) rfl w1.heap.size 0 rfl (lnC (mgA l l' k) ((n + k : Nat) : Int)) _ (range_line (w := wr.drew) ⟨HL.out.len, HL.out.row⟩) Tryd.underlying55 rfl (by rw [line_info, lnC_len, HL.out.len]) ?_
      refine hK.out _ _ hHeld (fun hHeld1 => ?_)
      clear hK K
      simp only [List.getElem_toArray, List.getElem_cons_zero, Act.put, List.setIfInBounds_toArray, List.set_cons_zero, List.set_cons_succ]
      refine wpAnyH_ready (rs := [5]) (by kernel_rfl) (by simp) ?_
      refine AllReadyH.cons rfl (fun K hK => ?_) AllReadyH.nil
      rw [if_pos (by rfl)]
      generalize hD : (lnC (mgA l l' (k + 1)) ((n + (k + 1) : Nat) : Int)).toArray = D at *
      generalize hD0 : (lnC (mgA l l' k) ((n + k : Nat) : Int)).toArray = D0 at *
      generalize hD1 : (entOf l'[k]).cells.toArray = D1 at *
      go_wp2_with fail
      refine (HWK.out _).mono ?_
      rintro e w2 ⟨rfl, hb2⟩
      have HL2 := Hid.mk (LnAt.kept (w := wr.drew) ⟨HL.out.len, HL.out.row⟩ hb2)
      have HM2 := Hid.mk (LnAt.kept (w := wr.drew) ⟨HM.out.len, HM.out.row⟩ hb2)
      have HB2 := Hid.mk (bl2 (HB.out.trans (show Below w.heap.size wr wr.drew from ⟨rfl, rfl, rfl, Nat.le_refl _, fun _ _ => rfl⟩)) hb2)
      clear hb2
      refine hK.out _ _ HM2.out (fun hHeld2 => ?_)
      clear hK K
      refine wpAnyH_ready (rs := [6]) (by kernel_rfl) (by simp) ?_
      refine AllReadyH.cons rfl (fun K hK => ?_) AllReadyH.nil
      rw [if_pos (by rfl)]
      refine wp_store_line (.tmp 7) (.tmp 38) rfl w1.heap.size (mgA l l' k) (mgA l l' (k + 1)) ((n + k : Nat) : Int) ((n + (k + 1) : Nat) : Int) rfl (by rw [hD]; rfl) HL2.out (HGL.out (k + 1) (by omega)) ?_
      intro w8 hL8 hT8
      refine hK.out _ _ (hHeld2.tch hT8 (by simp; omega)) (fun hHeld8 => ?_)
      clear hK K
      simp only [List.getElem_toArray, List.getElem_cons_zero, List.getElem_cons_succ, Act.put]
      refine wpAnyH_done (by kernel_rfl) ?_ _
      go_wp2_with fail
      go_roundw
      case rel => exact ⟨k + 1, by omega, by go_num, Hid.mk hL8, Hid.mk hHeld8, Hid.mk (Tch.below HB2.out hT8 (by simp; omega) (Nat.le_refl _))⟩
      case measure => simp [intOf]; omega
    · obtain rfl : k = n' := by omega
      have c8 := HL.out.size
      have z8 := HL.out.frozen 224
      obtain ⟨s, hs⟩ : ∃ s, s = n + k := ⟨_, rfl⟩
      rw [← hs] at c8 HFO HL
      have HSS := Hid.mk hs
      have hs32 : s ≤ 32 := by omega
      clear hs
      by_cases h16 : 16 ≤ s
      · have e1 : ((s - (s - 16) : Nat) : Int) = (s : Int) - ((s : Int) - 16) := by omega
        have e2 : (s : Int) - 16 = ((n + k - 16 : Nat) : Int) := by have := HSS.out; omega
        have HE2 := Hid.mk e2
        have hnl : ¬ ((s : Int) - 16 < 0) := by omega
        have hnl2 : (0 : Int) ≤ (s : Int) - 16 := by omega
        rw [e1] at HFO
        clear e1 e2
        have HL9 := Hid.mk (HL.out.setSize ((s : Int) - ((s : Int) - 16)))
        have HT9 := Hid.mk ((Tch.refl [w1.heap.size] wr).setK (g := w1.heap.size) (by simp) 224 (.int .i64 ((s : Int) - ((s : Int) - 16))))
        have HB9 := Hid.mk (Tch.below HB.out HT9.out (by simp; omega) (Nat.le_refl _))
        go_wp2_with (first | ((with_reducible_and_instances refine wpl_load_line (.tmp 7) w1.heap.size (mgA l l' k) ((s : Int) - ((s : Int) - 16)) ?_ HL9.out ?_); rfl))
        refine (HFO.out _ HB9.out).mono ?_
        rintro e w9 ⟨r, l2, rfl, hf, ho, hb9⟩
        go_wp2_with fail
        go_ret3
        exact ⟨r, l2, by rw [← HE2.out]; rfl, hf, ho.mono HB9.out.size, bl2 HB9.out hb9⟩
      · have e1 : ((s - (s - 16) : Nat) : Int) = (s : Int) := by omega
        have e2 : (0 : Int) = ((n + k - 16 : Nat) : Int) := by have := HSS.out; omega
        have HE2 := Hid.mk e2
        have hgt : (s : Int) - 16 < 0 := by omega
        have hgt2 : ¬ (0 : Int) ≤ (s : Int) - 16 := by omega
        rw [e1] at HFO
        clear e1 e2
        have HL9 := Hid.mk (HL.out.setSize ((s : Int)))
        have HT9 := Hid.mk ((Tch.refl [w1.heap.size] wr).setK (g := w1.heap.size) (by simp) 224 (.int .i64 ((s : Int))))
        have HB9 := Hid.mk (Tch.below HB.out HT9.out (by simp; omega) (Nat.le_refl _))
        go_wp2_with (first | ((with_reducible_and_instances refine wpl_load_line (.tmp 7) w1.heap.size (mgA l l' k) ((s : Int)) ?_ HL9.out ?_); rfl))
        refine (HFO.out _ HB9.out).mono ?_
        rintro e w9 ⟨r, l2, rfl, hf, ho, hb9⟩
        go_wp2_with fail
        go_ret3
        exact ⟨r, l2, by rw [← HE2.out]; rfl, hf, ho.mono HB9.out.size, bl2 HB9.out hb9⟩
end Bw
end Go.Proofs.YthdffdobkampaaaDoor
