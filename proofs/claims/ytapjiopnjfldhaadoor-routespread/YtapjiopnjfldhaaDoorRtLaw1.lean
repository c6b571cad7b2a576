/- What the law's own carried answers; slices.ContainsFunc and slices.Clone of numbers. -/
import Derived.Test.YtapjiopnjfldhaaDoorA10
import Derived.Test.YtapjiopnjfldhaaDoorA11
import Derived.Test.YtapjiopnjfldhaaDoorRefFrame
import Derived.Lib.SliceRun
namespace Go.Proofs.YtapjiopnjfldhaaDoor
open Go.ChangeShapes Go.WideShapes Go.ChangeAt Go.RowKit
namespace Bw
open Bm Cm
set_option linter.unusedVariables false
theorem lcar_res (tmps : Array Value) (w : World) (g : Nat) (cs : Array Value) (x : Value) (hp : tmps.getD 6 undef = .pointer (some ⟨g, 0, none⟩)) (hx : tmps.getD 7 undef = x) (h : w.heap[g]? = some (.cells cs 28 (0, 0))) (hs : cs.size = 6) :
    (results Tryd.f17 tmps).run Tryd.prog w = .ok (.tuple #[.agg cs, x]) w := by
  have hl := run_loadVar_row (P := Tryd.prog) w g 28 28 cs (0, 0) _ h Tryd.underlying28 rfl (by rw [fr6_i, hs])
  have hp' : tmps[6]?.getD undef = .pointer (some ⟨g, 0, none⟩) := by simpa using hp
  have hx' : tmps[7]?.getD undef = x := by simpa using hx
  simp [results, hp', hx', asAddr, hl]
set_option maxHeartbeats 4000000 in
set_option maxRecDepth 100000 in
theorem lcar_from (r : Rt) (bus id : Int) (lo fa re : Bool) (sz : Int) (a : Option Addr) (len cap : Nat) (w : World) (hne : (bus != r.fr) = true) :
    Calls Tryd.prog 17 #[r.val, .int .i64 bus, frameV id lo fa re sz a len cap] w fun e w' => e = .returned (.tuple #[frameV id lo fa re sz a len cap, .bool false]) ∧ Below w.heap.size w w' := by
  have b1 := awB w (rtC r)
  have b2 := awB (w.alloc (rtC r)) (frameC id lo fa re sz a len cap)
  have b3 := awB ((w.alloc (rtC r)).alloc (frameC id lo fa re sz a len cap)) (frameC id lo fa re sz a len cap)
  have h3 := Row6.new ((w.alloc (rtC r)).alloc (frameC id lo fa re sz a len cap)) id lo fa re sz a len cap
  rw [show ((w.alloc (rtC r)).alloc (frameC id lo fa re sz a len cap)).heap.size = w.heap.size + 2 by simp] at h3
  have H3 := Hid.mk h3
  have HB := Hid.mk (bl2 (bl2 b1 b2) b3)
  obtain ⟨fr, tb, ⟨fw, fm, flo⟩, add, ev⟩ := r
  unfold rtC frameC at H3 HB
  unfold Rt.val frameV
  simp only at *
  clear h3 b1 b2 b3
  go_enter Tryd.func17, Tryd.ntmps17
  go_wp2_with fail
  refine bodyPost_ret (lcar_res _ _ (w.heap.size + 2) _ _ rfl rfl H3.out rfl) rfl ?_
  exact ⟨rfl, HB.out⟩
set_option maxHeartbeats 8000000 in
set_option maxRecDepth 100000 in
theorem lcar_nohit (fr tb add ev : Int) (x : Fn) (id : Nat) (lo fa re : Bool) (sz : Int) (a : Option Addr) (len cap : Nat) (w : World) (hok : okN x) (hlen : len ≤ maxLen) (hid : id ≤ topN lo) (hh : hitN x lo id = false) :
    Calls Tryd.prog 17 #[Rt.val ⟨fr, tb, x.f, add, ev⟩, .int .i64 fr, frameV id lo fa re sz a len cap] w fun e w' => e = .returned (.tuple #[frameV id lo fa re sz a len cap, .bool false]) ∧ Below w.heap.size w w' := by
  obtain ⟨h1, h2, h3, hb, hsz⟩ := car3_at w ⟨fr, tb, x.f, add, ev⟩ id lo fa re sz a len cap
  have hidb : id ≤ 536870911 := by have h : topN lo ≤ 536870911 := by cases lo <;> decide
                                   omega
  have hI := letsIn_any x id lo fa re sz a len cap (car3 w ⟨fr, tb, x.f, add, ev⟩ id lo fa re sz a len cap) hok hidb
  rw [hh] at hI
  have HI := Hid.mk hI
  have HB1 := Hid.mk hb
  have H1 := Hid.mk h1
  have H2 := Hid.mk h2
  have H3 := Hid.mk h3
  obtain ⟨k0, k1, k2, k3, k4, k5⟩ := h2.fr
  obtain ⟨fw, fm, flo⟩ := x
  unfold Fn.f Fl.val at *
  unfold car3 rtC frameC at HI HB1 H1 H2 H3 k0 k1 k2 k3 k4 k5
  unfold Rt.val frameV
  simp only at *
  clear h1 h2 h3 hb hI hok hlen hid hh hsz hidb
  go_enter Tryd.func17, Tryd.ntmps17
  go_wp2_with fail
  refine HI.out.mono ?_
  rintro e w1 ⟨rfl, hb2⟩
  have HB2 := Hid.mk (bl2 HB1.out hb2)
  have H3R : Hid (w1.heap[w.heap.size + 2]? = some (.cells #[.int .i64 0, .bool false, .bool false, .bool false, .int .i64 0, .slice none 0 0] 28 (0, 0))) := Hid.mk (H3.out.kept hb2)
  obtain ⟨q0, q1, q2, q3, q4, q5⟩ := (H2.out.kept hb2).fr
  clear hb2 HB1 H1 H2 H3 HI k0 k1 k2 k3 k4 k5
  go_wp2_with (
     with_reducible_and_instances refine wpl_store_row (.tmp 6) (.tmp 19) 28 (w.heap.size + 2) 28 _ #[.int .i64 (id : Int), .bool lo, .bool fa, .bool re, .int .i64 sz, .slice a len cap] ?_ ?_ H3R.out fr6_i rfl (by simp [Value.oneCell']) ?_
     rfl
     rfl
     intro w2 h6 hg6
     have H6 := Hid.mk h6
     have HB6 := Hid.mk (Below.grown HB2.out hg6 HB2.out.size (fun q hq => by cases hq; omega))
     clear h6 hg6)
  refine bodyPost_ret (lcar_res _ _ (w.heap.size + 2) _ _ rfl rfl H6.out rfl) rfl ?_
  exact ⟨rfl, HB6.out⟩
set_option maxHeartbeats 8000000 in
set_option maxRecDepth 100000 in
theorem lcar_hit (fr tb add ev : Int) (x : Fn) (id : Nat) (lo fa re : Bool) (sz : Int) (a : Option Addr) (len cap : Nat) (w : World) (hok : okN x) (hlen : len ≤ maxLen) (hid : id ≤ topN lo) (hh : hitN x lo id = true) (ha0 : -536870911 ≤ add) (ha1 : add ≤ 536870911) :
    Calls Tryd.prog 17 #[Rt.val ⟨fr, tb, x.f, add, ev⟩, .int .i64 fr, frameV id lo fa re sz a len cap] w fun e w' => e = .returned (.tuple #[frameV (id + add) lo fa re sz a len cap, .bool (frEn (id + add) lo fa re sz len == 0)]) ∧ Below w.heap.size w w' := by
  obtain ⟨h1, h2, h3, hb, hsz⟩ := car3_at w ⟨fr, tb, x.f, add, ev⟩ id lo fa re sz a len cap
  have hidb : id ≤ 536870911 := by have h : topN lo ≤ 536870911 := by cases lo <;> decide
                                   omega
  have hI := letsIn_any x id lo fa re sz a len cap (car3 w ⟨fr, tb, x.f, add, ev⟩ id lo fa re sz a len cap) hok hidb
  rw [hh] at hI
  have HI := Hid.mk hI
  have HB1 := Hid.mk hb
  have H1 := Hid.mk h1
  have H2 := Hid.mk h2
  have H3 := Hid.mk h3
  obtain ⟨k0, k1, k2, k3, k4, k5⟩ := h2.fr
  obtain ⟨fw, fm, flo⟩ := x
  unfold Fn.f Fl.val at *
  unfold car3 rtC frameC at HI HB1 H1 H2 H3 k0 k1 k2 k3 k4 k5
  unfold Rt.val frameV
  simp only at *
  have HCK := Hid.mk (fun (W : World) (h : Below w.heap.size w W) => checkFrame_any (id + add) lo fa re sz a len cap W (by have := hlen; unfold maxLen at this; omega))
  have hidi : (id : Int) ≤ 536870911 := by omega
  obtain ⟨ID, hID⟩ : ∃ ID, ID = (id : Int) + add := ⟨_, rfl⟩
  rw [← hID] at HCK ⊢
  have hIb : ID ≤ 1073741822 ∧ -536870911 ≤ ID := by omega
  obtain ⟨hI1, hI2⟩ := hIb
  have hIDe : (id : Int) + add = ID := hID.symm
  generalize frEn ID lo fa re sz len = E at *
  obtain ⟨Z, hZ⟩ : ∃ Z : Bool, Z = (E == 0) := ⟨_, rfl⟩
  rw [← hZ]
  have HZE := Hid.mk hZ
  unfold frameV at HCK
  clear h1 h2 h3 hb hI hok hlen hid hh hsz hID hZ hidb
  go_enter Tryd.func17, Tryd.ntmps17
  go_wp2_with fail
  refine HI.out.mono ?_
  rintro e w1 ⟨rfl, hb2⟩
  have HB2 := Hid.mk (bl2 HB1.out hb2)
  have H12 := Hid.mk (H1.out.kept hb2)
  have H22 := Hid.mk (H2.out.kept hb2)
  have H32 := Hid.mk (H3.out.kept hb2)
  clear hb2 HB1 H1 H2 H3 HI k0 k1 k2 k3 k4 k5
  have q5 := H12.out.c5
  have q0 := H22.out.fr.c0
  have f0 := H22.out.frozen 0
  have HB3 := Hid.mk (HB2.out.setCell (p := ⟨w.heap.size + 1, 0, none⟩) (show w.heap.size ≤ w.heap.size + 1 by omega) (.int .i64 ID))
  have H23 := Hid.mk (H22.out.set0 ID)
  have H33 := Hid.mk (H32.out.far (p := ⟨w.heap.size + 1, 0, none⟩) (show w.heap.size + 2 ≠ w.heap.size + 1 by omega) (.int .i64 ID))
  clear H12
  go_wp2_with fail
  generalize w1.setCell ⟨w.heap.size + 1, 0, none⟩ (.int .i64 ID) = W3 at *
  clear q5 q0 f0 H22 H32 HB2
  have hdd := dwB W3
  refine wp_region_held_drew (S := fun W => Row6 W (w.heap.size + 1) ID lo fa re sz a len cap ∧ Below w.heap.size w W) (by kernel_rfl) ⟨H23.out.kept hdd, bl2 HB3.out hdd⟩ (fun hHeld => ?_)
  refine wpAnyH_take (i := 0) rfl (by kernel_rfl) (by kernel_rfl) (by kernel_rfl) (fun _ _ _ h => h) (yieldsIf_load_mid (by rfl) _ _ rfl _ _ rfl _ _ (fun W hW => range6 hW.1.fr) Tryd.underlying28 rfl fr6_i) hHeld ?_
  simp only [List.getElem_toArray, List.getElem_cons_zero, Act.put, List.setIfInBounds_toArray, List.set_cons_zero, List.set_cons_succ]
  refine wpAnyH_take (i := 1) rfl (by kernel_rfl) (by kernel_rfl) (by kernel_rfl) (fun _ _ _ h => h) (yieldsIf_load_mid (by rfl) _ _ rfl _ _ rfl _ _ (fun W hW => range6 hW.1.fr) Tryd.underlying28 rfl fr6_i) hHeld ?_
  simp only [List.getElem_toArray, List.getElem_cons_zero, List.getElem_cons_succ, Act.put, List.setIfInBounds_toArray, List.set_cons_zero, List.set_cons_succ]
  refine wpAnyH_ready (rs := [2]) (by kernel_rfl) (by simp) ?_
  refine AllReadyH.cons rfl (fun K hK => ?_) AllReadyH.nil
  rw [if_pos (by rfl)]
  go_wp2_with fail
  refine (HCK.out _ hHeld.2).mono ?_
  rintro e w4 ⟨rfl, hb4⟩
  refine hK.out _ _ ⟨hHeld.1.kept hb4, bl2 hHeld.2 hb4⟩ (fun hHeld4 => ?_)
  clear hK K
  refine wpAnyH_take (i := 3) (v := .bool Z) rfl (by kernel_rfl) (by kernel_rfl) (by kernel_rfl) (fun _ _ _ h => h) (Or.inl ⟨by rfl, fun W hW => by rw [HZE.out]; clear hW hHeld hHeld4; go_simp⟩) hHeld4 ?_
  simp only [List.getElem_toArray, List.getElem_cons_zero, List.getElem_cons_succ, Act.put, List.setIfInBounds_toArray, List.set_cons_zero, List.set_cons_succ]
  have h34 : w4.heap[w.heap.size + 2]? = some (.cells #[.int .i64 0, .bool false, .bool false, .bool false, .int .i64 0, .slice none 0 0] 28 (0, 0)) := (H33.out.kept hdd).kept hb4
  have hlt4 : w.heap.size + 2 < w4.heap.size := (Array.getElem?_eq_some_iff.1 h34).1
  refine wpAnyH_ready (rs := [4]) (by kernel_rfl) (by simp) ?_
  refine AllReadyH.cons rfl (fun K hK => ?_) AllReadyH.nil
  rw [if_pos (by rfl)]
  refine op_store_row w4 (.tmp 6) (.tmp 26) 28 rfl (w.heap.size + 2) 28 _ #[.int .i64 ID, .bool lo, .bool fa, .bool re, .int .i64 sz, .slice a len cap] rfl rfl h34 fr6_i rfl (by simp [Value.oneCell']) ?_
  intro w5 h5 hg5
  refine hK.out _ _ ⟨(hg5.block (w.heap.size + 1) (by omega) (by simp)).trans hHeld4.1, Below.grown hHeld4.2 hg5 (by omega) (fun q hq => by cases hq; omega)⟩ (fun hHeld5 => ?_)
  clear hK K
  refine wpAnyH_take (i := 5) (v := .bool Z) rfl (by kernel_rfl) (by kernel_rfl) (by kernel_rfl) (fun _ _ _ h => h) (Or.inl ⟨by rfl, fun _ _ => rfl⟩) hHeld5 ?_
  simp only [List.getElem_toArray, List.getElem_cons_zero, List.getElem_cons_succ, Act.put, List.setIfInBounds_toArray, List.set_cons_zero, List.set_cons_succ]
  refine wpAnyH_done (by kernel_rfl) ?_ _
  go_wp2_with fail
  refine bodyPost_ret (lcar_res _ _ (w.heap.size + 2) _ _ rfl rfl h5 rfl) rfl ?_
  exact ⟨rfl, hHeld5.2⟩
theorem lcar_any (r : Rt) (bus : Int) (id : Nat) (lo fa re : Bool) (sz : Int) (a : Option Addr) (len cap : Nat) (w : World) (hok : okFl r.f = true) (had : addB r = true) (hlen : len ≤ maxLen) (hid : id ≤ topN lo) :
    Calls Tryd.prog 17 #[r.val, .int .i64 bus, frameV id lo fa re sz a len cap] w fun e w' => (∃ i', e = .returned (.tuple #[frameV i' lo fa re sz a len cap, .bool (carB r bus id lo fa re sz len)]) ∧ (carB r bus id lo fa re sz len = true → i' = (id : Int) + r.add)) ∧ Below w.heap.size w w' := by
  obtain ⟨hf, hokn⟩ := fl_fn hok
  unfold addB at had
  simp only [decide_eq_true_eq] at had
  by_cases h1 : r.fr = bus
  · obtain ⟨fr, tb, f, add, ev⟩ := r
    simp only at h1 hf hokn had
    subst h1
    cases h2 : hitN f.n lo id
    · have := lcar_nohit fr tb add ev f.n id lo fa re sz a len cap w hokn hlen hid h2
      rw [hf] at this
      refine this.mono ?_
      rintro e w' ⟨rfl, hb⟩
      have hc : carB ⟨fr, tb, f, add, ev⟩ fr id lo fa re sz len = false := by unfold carB; simp [h2]
      rw [hc]
      exact ⟨⟨_, rfl, fun h => by cases h⟩, hb⟩
    · have := lcar_hit fr tb add ev f.n id lo fa re sz a len cap w hokn hlen hid h2 had.1 had.2
      rw [hf] at this
      refine this.mono ?_
      rintro e w' ⟨rfl, hb⟩
      have hc : carB ⟨fr, tb, f, add, ev⟩ fr id lo fa re sz len = (frEn (id + add) lo fa re sz len == 0) := by unfold carB; simp [h2]
      rw [hc]
      exact ⟨⟨_, rfl, fun _ => rfl⟩, hb⟩
  · refine (lcar_from r bus id lo fa re sz a len cap w (by simpa using fun e : bus = r.fr => h1 e.symm)).mono ?_
    rintro e w' ⟨rfl, hb⟩
    have hc : carB r bus id lo fa re sz len = false := by unfold carB; simp [h1]
    rw [hc]
    exact ⟨⟨_, rfl, fun h => by cases h⟩, hb⟩
set_option maxHeartbeats 2000000 in
set_option maxRecDepth 100000 in
theorem lateFn (t time : Int) (g : Nat) (w : World) (hc : w.cell? ⟨g, 0, none⟩ = some (.int .i64 time)) :
    Calls Tryd.prog 15 #[.int .i64 t, .pointer (some ⟨g, 0, none⟩)] w fun e w' => e = .returned (.bool (decide (time < t))) ∧ w' = w := by
  by_cases h : time < t
  · rw [decide_eq_true h]
    go_enter Tryd.func15, Tryd.ntmps15
    go_wp2_with fail
    go_ret
    exact ⟨rfl, rfl⟩
  · rw [decide_eq_false h]
    go_enter Tryd.func15, Tryd.ntmps15
    go_wp2_with fail
    go_ret
    exact ⟨by first | rfl | (congr 1; simp; omega), rfl⟩
set_option maxHeartbeats 2000000 in
set_option maxRecDepth 100000 in
theorem lateIx (b : Option Addr) (m d : Nat) (ts : List Int) (time : Int) (g : Nat) (w : World) (hT : IsNums w b m d ts) (hc : w.cell? ⟨g, 0, none⟩ = some (.int .i64 time)) :
    Calls Tryd.prog 39 #[.slice b m d, .func (.func 15) #[] #[.pointer (some ⟨g, 0, none⟩)]] w fun e w' => ∃ r : Int, e = .returned (.int .i64 r) ∧ decide (0 ≤ r) = lateB ts time ∧ w' = w := by
  have HT := Hid.mk hT
  have HFN := Hid.mk (fun t => lateFn t time g w hc)
  have hm63 := mlen (Nat.le_trans hT.le hT.max)
  have htl := hT.len
  clear hT hc
  go_enter Tryd.func39, Tryd.ntmps39
  go_wp2_with fail
  go_loopw [8] (fun i wr => ∃ k : Nat, k ≤ m ∧ i = .int .i64 k ∧ Hid (∀ j, j < k → ¬ time < ts.getD j 0) ∧ wr = w) (fun i _ => m - (intOf i).toNat)
  case atStart => exact ⟨0, Nat.zero_le _, rfl, Hid.mk (fun j hj => absurd hj (Nat.not_lt_zero _)), rfl⟩
  case round =>
    obtain ⟨k, hk, rfl, HA, rfl⟩ := hrel
    by_cases hlt : k < m
    · have hlt' : (k : Int) < (m : Int) := by omega
      obtain ⟨z, rfl⟩ := HT.out.some hlt
      have c7 := HT.out.cell z rfl k hlt
      have HLY := Hid.mk (fun h => late_yes (ts := ts) (time := time) (j := k) (by rw [htl]; exact hlt) h)
      have HQ := Hid.mk (fun (h : ¬ time < ts.getD k 0) => h)
      obtain ⟨t, ht⟩ : ∃ t, t = ts.getD k 0 := ⟨_, rfl⟩
      rw [← ht] at c7
      rw [← ht] at HLY
      have HTE := Hid.mk ht
      have hcall := HFN.out t
      by_cases hq : time < t
      · rw [decide_eq_true hq] at hcall
        have HC := Hid.mk hcall
        have HN := Hid.mk (HLY.out hq)
        clear hcall hq ht
        go_wp2_with fail
        refine HC.out.mono ?_
        rintro e w1 ⟨rfl, hw1⟩
        rw [hw1]
        clear hw1
        go_wp2_with fail
        go_ret
        refine ⟨_, rfl, ?_, rfl⟩
        rw [HN.out]
        simp
      · rw [decide_eq_false hq] at hcall
        have HC := Hid.mk hcall
        have HNQ := Hid.mk hq
        clear hcall hq ht
        go_wp2_with fail
        refine HC.out.mono ?_
        rintro e w1 ⟨rfl, hw1⟩
        rw [hw1]
        clear hw1
        go_wp2_with fail
        go_roundw
        case rel =>
          refine ⟨k + 1, by omega, by go_num, Hid.mk fun j hj => ?_, trivial⟩
          by_cases e : j = k
          · subst e; rw [← HTE.out]; have := HNQ.out; omega
          · have := HA.out j (by omega); omega
        case measure => simp [intOf]; omega
    · obtain rfl : k = m := by omega
      have HN := Hid.mk (late_no (ts := ts) (time := time) (by rw [htl]; intro j hj; have := HA.out j hj; omega))
      go_wp2_with fail
      go_ret
      refine ⟨-1, rfl, ?_, rfl⟩
      rw [HN.out]
      rfl
set_option maxHeartbeats 1000000 in
theorem lateCf (b : Option Addr) (m d : Nat) (ts : List Int) (time : Int) (g : Nat) (w : World) (hT : IsNums w b m d ts) (hc : w.cell? ⟨g, 0, none⟩ = some (.int .i64 time)) :
    Calls Tryd.prog 14 #[.slice b m d, .func (.func 15) #[] #[.pointer (some ⟨g, 0, none⟩)]] w fun e w' => e = .returned (.bool (lateB ts time)) ∧ w' = w := by
  have HE := Hid.mk (lateIx b m d ts time g w hT hc)
  clear hT hc
  generalize lateB ts time = LB at *
  go_enter Tryd.func14, Tryd.ntmps14
  go_wp2_with fail
  refine HE.out.mono ?_
  rintro e w1 ⟨r, rfl, hr, hw1⟩
  rw [hw1]
  have HR := Hid.mk hr
  clear hr hw1
  go_wp2_with fail
  go_ret
  exact ⟨by rw [← HR.out]; rfl, rfl⟩
theorem eqlI_nil (w : World) (cap : Nat) : (binOp .eql 23 (.slice none 0 cap) (.slice none 0 0)).run Tryd.prog w = .ok (.bool true) w :=
  Lib.run_eql_slice_nil w 23 3 none 0 cap 0 0 Tryd.underlying23
theorem eqlI_some (w : World) (x : Addr) (n cap : Nat) : (binOp .eql 23 (.slice (some x) n cap) (.slice none 0 0)).run Tryd.prog w = .ok (.bool false) w :=
  Lib.run_eql_slice_nil w 23 3 (some x) n cap 0 0 Tryd.underlying23
set_option maxHeartbeats 4000000 in
set_option maxRecDepth 100000 in
theorem cloneI_any (b : Option Addr) (m d : Nat) (ts : List Int) (w : World) (hT : IsNums w b m d ts) (hm : m ≤ 1000) :
    Calls Tryd.prog 16 #[.slice b m d] w fun e w' => ∃ v, e = .returned v ∧ w'.ownsRow w.heap.size 3 1 v m (numC ts) ∧ Below w.heap.size w w' := by
  have hlen := hT.len
  cases b with
  | none =>
    have h0 := hT.none rfl
    subst h0
    obtain rfl : ts = [] := List.eq_nil_of_length_eq_zero hlen
    have he := eqlI_nil w d
    clear hT
    go_enter Tryd.func16, Tryd.ntmps16
    go_wp2_with fail
    go_ret
    exact ⟨_, rfl, World.ownsRow_nil _ _ _ _, Below.refl _ _⟩
  | some x =>
    obtain ⟨i0, hi, hz0, hz1, hz2⟩ := info_parts info_intF
    have hB0 : Below w.heap.size w (w.alloc (.cells #[] 3)) := awB _ _
    have he := eqlI_some w x m d
    have HO := Hid.mk (show (w.alloc (.cells #[] 3)).ownsRow w.heap.size 3 1 (.slice (some ⟨w.heap.size, 0, none⟩) 0 0) 0 [] from World.ownsRow_made w #[] 0 (Nat.le_refl _) (Nat.zero_le _) rfl)
    have HCC := Hid.mk (nums_cells (hT.kept hB0))
    have HB := Hid.mk hB0
    have HCL : Hid ((numC ts).length = m * 1) := Hid.mk (by simp [numC, hlen])
    have HON := Hid.mk (nums_one ts)
    have HM := Hid.mk hm
    clear hT hB0 hm
    go_enter Tryd.func16, Tryd.ntmps16
    go_wp2_with (at_builtin; refine wpList_append_own _ rfl (.tmp 5) (.tmp 6) 23 rfl w.heap.size 3 i0 (.int .i64 0) 1 8 Tryd.underlying23 hi hz0 hz1 hz2 rfl (by decide) _ _ _ rfl HO.out x m d (numC ts) rfl HCL.out HCC.out HON.out (by have := HM.out; unfold maxLen; omega) (by have := HM.out; omega) (by simp) ?_; intro v3 w3 hown3 hgrow3 hnil3)
    rw [Nat.zero_add, List.nil_append] at hown3
    have hB3 : Below w.heap.size w w3 := Below.grown HB.out hgrow3 (by simp) (fun q hq => (HO.out.lt q hq).1)
    go_ret
    exact ⟨_, rfl, hown3, hB3⟩
end Bw
end Go.Proofs.YtapjiopnjfldhaaDoor
