/- Joined out of our texts: QSame, QmergeLaw, SizesRow, BruijnRow, QmergeWalk. -/
import Derived.Test.YthdffdobkampaaaDoorLawQueueMergePAD
import Derived.Test.YthdffdobkampaaaDoorLawQueueMergePAC
import Derived.Test.YthdffdobkampaaaDoorRows
import Derived.Test.YthdffdobkampaaaDoorLawQueueMergePAA
import Derived.Lib.LaidU8
import Derived.Test.YthdffdobkampaaaDoorIsRow
import Derived.Test.YthdffdobkampaaaDoorRefFrame
/- What the document's own SameFrames answers of frames that are alike. -/
namespace Go.Proofs.YthdffdobkampaaaDoor
open Go.ChangeShapes Go.WideShapes Go.ChangeAt Go.RowKit
namespace Bw
open Bm Cm
set_option maxHeartbeats 1000000 in
set_option maxRecDepth 100000 in
theorem equalFr_true (a : Option Addr) (n c : Nat) (l : List FrV) (a' : Option Addr) (c' : Nat) (l' : List FrV) (w : World) (hF : IsFrames w a n c l) (hF' : IsFrames w a' n c' l') (he : l.map (·.f) = l'.map (·.f)) :
    Calls Tryd.prog 32 #[.slice a n c, .slice a' n c', .func (.func 16) #[] #[]] w fun e w' => e = .returned (.bool true) ∧ Below w.heap.size w w' := by
  have hmx : n ≤ 9223372036854775807 := by have := Nat.le_trans hF.le hF.max; unfold maxLen at this; omega
  have HF := Hid.mk hF
  have HF' := Hid.mk hF'
  have HE := Hid.mk he
  clear hF hF' he
  go_enter Tryd.func32, Tryd.ntmps32
  go_wp2_with fail
  go_loopw [17] (fun i wr => ∃ (k : Nat), k ≤ n ∧ i = .int .i64 k ∧ Hid (Below w.heap.size w wr)) (fun i _ => n - (intOf i).toNat)
  case atStart => exact ⟨0, Nat.zero_le _, rfl, Hid.mk (Below.refl _ _)⟩
  case round =>
    obtain ⟨k, hk, rfl, HB⟩ := hrel
    by_cases hlt : k < n
    · have hlt' : (k : Int) < (n : Int) := by omega
      have hkl : k < l.length := by rw [HF.out.len]; exact hlt
      have hkl' : k < l'.length := by rw [HF'.out.len]; exact hlt
      cases a with
      | none => exact absurd (HF.out.none rfl) (by omega)
      | some x =>
        cases a' with
        | none => exact absurd (HF'.out.none rfl) (by omega)
        | some y =>
          have cc := fun (j : Nat) (hj : j < 6) => cell_kept HB.out (HF.out.cell x rfl k hkl j hj)
          have dd := fun (j : Nat) (hj : j < 6) => cell_kept HB.out (HF'.out.cell y rfl k hkl' j hj)
          have hby := isBytes_below (HF.out.bytes k hkl) (show Below w.heap.size w wr from HB.out)
          have hby' := isBytes_below (HF'.out.bytes k hkl') (show Below w.heap.size w wr from HB.out)
          have hff : l[k].f = l'[k].f := by
            have h1 : (l.map (·.f))[k]? = some l[k].f := by rw [List.getElem?_map, List.getElem?_eq_getElem hkl]; rfl
            have h2 : (l'.map (·.f))[k]? = some l'[k].f := by rw [List.getElem?_map, List.getElem?_eq_getElem hkl']; rfl
            rw [HE.out, h2] at h1
            exact (Option.some.inj h1).symm
          generalize l[k] = v at *
          generalize l'[k] = u at *
          obtain ⟨⟨id, lo, fa, re, sz, dt⟩, va, vl, vc⟩ := v
          obtain ⟨f', ua, ul, uc⟩ := u
          simp only at hff
          subst hff
          simp only at hby hby'
          have c0 := cc 0 (by omega)
          have c1 := cc 1 (by omega)
          have c2 := cc 2 (by omega)
          have c3 := cc 3 (by omega)
          have c4 := cc 4 (by omega)
          have c5 := cc 5 (by omega)
          rw [add_nextQ] at c1 c2 c3 c4 c5
          rw [Nat.add_zero] at c0
          simp only [FrV.cells, List.getElem_cons_zero, List.getElem_cons_succ, Nat.reduceAdd] at c0 c1 c2 c3 c4 c5
          have d0 := dd 0 (by omega)
          have d1 := dd 1 (by omega)
          have d2 := dd 2 (by omega)
          have d3 := dd 3 (by omega)
          have d4 := dd 4 (by omega)
          have d5 := dd 5 (by omega)
          rw [add_nextQ] at d1 d2 d3 d4 d5
          rw [Nat.add_zero] at d0
          simp only [FrV.cells, List.getElem_cons_zero, List.getElem_cons_succ, Nat.reduceAdd] at d0 d1 d2 d3 d4 d5
          have hb1 := below_box wr id lo fa re sz va vl vc
          have hb2 := below_box (wr.alloc (frameC id lo fa re sz va vl vc)) id lo fa re sz ua ul uc
          have hb12 := bl2 hb1 hb2
          have hsm := sameFrame_true ⟨id, lo, fa, re, sz, dt⟩ va ua vl vc ul uc _ (isBytes_below hby hb12) (isBytes_below hby' hb12)
          have HSM := Hid.mk hsm
          have HB2 := Hid.mk (bl2 HB.out hb12)
          have e0 := cell_kept hb1 d0
          have e1 := cell_kept hb1 d1
          have e2 := cell_kept hb1 d2
          have e3 := cell_kept hb1 d3
          have e4 := cell_kept hb1 d4
          have e5 := cell_kept hb1 d5
          unfold frameC at HSM HB2 e0 e1 e2 e3 e4 e5
          unfold frameV at HSM
          simp only at HSM
          clear cc dd hby hby' hb1 hb2 hb12 hsm d0 d1 d2 d3 d4 d5
          go_wp2_with fail
          refine HSM.out.mono ?_
          rintro e w3 ⟨rfl, hb3⟩
          have HB3 := Hid.mk (bl2 HB2.out hb3)
          clear hb3 c0 c1 c2 c3 c4 c5 e0 e1 e2 e3 e4 e5
          go_wp2_with fail
          go_roundw
          case rel => exact ⟨k + 1, by omega, by go_num, HB3⟩
          case measure => simp [intOf]; omega
    · obtain rfl : k = n := by omega
      go_wp2_with fail
      go_ret
      exact ⟨rfl, HB.out⟩
set_option maxHeartbeats 1000000 in
theorem sameFrs_true (a : Option Addr) (n c : Nat) (l : List FrV) (a' : Option Addr) (c' : Nat) (l' : List FrV) (w : World) (hF : IsFrames w a n c l) (hF' : IsFrames w a' n c' l') (he : l.map (·.f) = l'.map (·.f)) :
    Calls Tryd.prog 14 #[.slice a n c, .slice a' n c'] w fun e w' => e = .returned (.bool true) ∧ Below w.heap.size w w' := by
  have H1 := Hid.mk (equalFr_true a n c l a' c' l' w hF hF' he)
  clear hF hF' he
  go_enter Tryd.func14, Tryd.ntmps14
  go_wp2_with fail
  refine H1.out.mono ?_
  rintro e w1 ⟨rfl, hb1⟩
  go_wp2_with fail
  go_ret
  exact ⟨rfl, hb1⟩
end Bw
end Go.Proofs.YthdffdobkampaaaDoor

/- QueueMerge's walk. -/
namespace Go.Proofs.YthdffdobkampaaaDoor
open Go.ChangeShapes Go.WideShapes Go.ChangeAt Go.RowKit
namespace Bw
open Bm Cm
theorem frames_take {w : World} {a : Option Addr} {n c : Nat} {l : List FrV} (h : IsFrames w a n c l) (k : Nat) (hk : k ≤ n) : IsFrames w a k c (l.take k) := by
  have hl := h.len
  refine ⟨by rw [List.length_take]; omega, Nat.le_trans hk h.le, h.max, (fun e => by have := h.none e; omega), fun x hx i hi j hj => ?_, fun i hi => ?_⟩
  · rw [List.length_take] at hi
    rw [h.cell x hx i (by omega) j hj]
    simp only [List.getElem_take]
    rfl
  · rw [List.getElem_take]
    rw [List.length_take] at hi
    exact h.bytes i (by omega)
theorem slice_fh (a : Option Addr) (n c k : Nat) (hk : k ≤ c) (W : World) : (Instr.slice 22 (.slice a n c) none (some (.int .i64 (k : Int))) none).run Tryd.prog W = .ok (.slice a k c) W := by
  rw [run_slice_h (ht := und_fr) (h0 := by omega) (h2 := by omega), elem_fr, size_fr]
  cases a with
  | none => simp [Result.andThen, sliced]
  | some x =>
    simp [Result.andThen, sliced]
    intro _
    simp [Addr.add]
set_option maxHeartbeats 1000000 in
set_option maxRecDepth 100000 in
theorem merge_badL (hCF : CheckF) (a : Option Addr) (n cap : Nat) (l : List FrV) (a' : Option Addr) (n' cap' : Nat) (l' : List FrV) (w : World) (hS : SizesAt w) (hD : w.cell? ⟨4, 1, none⟩ = some (.int .u8 1)) (hF : IsFrames w a n cap l) (hF' : IsFrames w a' n' cap' l') (hq : mrgE (l.map (·.f)) (l'.map (·.f)) ≠ 0) :
    Calls Tryd.prog 4 #[.slice a n cap, .slice a' n' cap'] w fun e w' => e = .returned (.bool true) ∧ Below w.heap.size w w' := by
  have h1 := merge_bad a n cap l a' n' cap' l' w hS hF hF' hq
  have H2 := Hid.mk (fun W (hW : Below w.heap.size w W) => checkQueue_any hCF a n cap l W (cell_kept hW hD) (hF.kept hW))
  have H3 := Hid.mk (fun W (hW : Below w.heap.size w W) => checkQueue_any hCF a' n' cap' l' W (cell_kept hW hD) (hF'.kept hW))
  have HQ := Hid.mk (fun W (hW : Below w.heap.size w W) => queued_any W (hS.kept hW))
  have hme : mrgE (l.map (·.f)) (l'.map (·.f)) = if chkQ (l.map (·.f)) = 0 then chkQ (l'.map (·.f)) else chkQ (l.map (·.f)) := rfl
  rw [hme] at h1 hq
  have H1 := Hid.mk h1
  clear h1 hS hD hF hF' hme
  by_cases hc : chkQ (l.map (·.f)) = 0
  · rw [if_pos hc] at H1 hq
    rw [hc] at H2
    have hne : (chkQ (l'.map (·.f)) != 0) = true := by simpa using hq
    generalize chkQ (l'.map (·.f)) = ce at *
    clear hc
    go_enter Tryd.func4, Tryd.ntmps4
    go_wp2_with fail
    refine H1.out.mono ?_
    rintro e w1 ⟨rfl, hb1⟩
    go_wp2_with fail
    refine (H2.out _ hb1).mono ?_
    rintro e w2 ⟨rfl, hb2⟩
    have hb2' := bl2 hb1 hb2
    go_wp2_with fail
    refine (H3.out _ hb2').mono ?_
    rintro e w3 ⟨rfl, hb3⟩
    have hb3' := bl2 hb2' hb3
    go_wp2_with fail
    refine (HQ.out _ hb3').mono ?_
    rintro e w4 ⟨rfl, hb4⟩
    have hb4' := bl2 hb3' hb4
    go_wp2_with fail
    refine (HQ.out _ hb4').mono ?_
    rintro e w5 ⟨rfl, hb5⟩
    have hb5' := bl2 hb4' hb5
    go_wp2_with fail
    go_ret
    exact ⟨rfl, hb5'⟩
  · rw [if_neg hc] at H1
    have hne : (chkQ (l.map (·.f)) != 0) = true := by simpa using hc
    have hnb : (chkQ (l.map (·.f)) == 0) = false := by simpa using hc
    generalize chkQ (l.map (·.f)) = ce at *
    clear hc hq
    go_enter Tryd.func4, Tryd.ntmps4
    go_wp2_with fail
    refine H1.out.mono ?_
    rintro e w1 ⟨rfl, hb1⟩
    go_wp2_with fail
    refine (H2.out _ hb1).mono ?_
    rintro e w2 ⟨rfl, hb2⟩
    have hb2' := bl2 hb1 hb2
    go_wp2_with fail
    refine (HQ.out _ hb2').mono ?_
    rintro e w4 ⟨rfl, hb4⟩
    have hb4' := bl2 hb2' hb4
    go_wp2_with fail
    refine (HQ.out _ hb4').mono ?_
    rintro e w5 ⟨rfl, hb5⟩
    have hb5' := bl2 hb4' hb5
    go_wp2_with fail
    go_ret
    exact ⟨rfl, hb5'⟩
set_option maxHeartbeats 2000000 in
set_option maxRecDepth 100000 in
theorem merge_okL (hCF : CheckF) (a : Option Addr) (n cap : Nat) (l : List FrV) (a' : Option Addr) (n' cap' : Nat) (l' : List FrV) (w : World) (hS : SizesAt w) (hD : w.cell? ⟨4, 1, none⟩ = some (.int .u8 1)) (hF : IsFrames w a n cap l) (hF' : IsFrames w a' n' cap' l') (hc : chkQ (l.map (·.f)) = 0) (hc' : chkQ (l'.map (·.f)) = 0) :
    Calls Tryd.prog 4 #[.slice a n cap, .slice a' n' cap'] w fun e w' => e = .returned (.bool true) ∧ Below w.heap.size w w' := by
  obtain ⟨q1, q2, _⟩ := chk_ok hc
  obtain ⟨q1', q2', _⟩ := chk_ok hc'
  rw [List.length_map] at q1 q1'
  have hlen := hF.len
  have hlen' := hF'.len
  have H1 := Hid.mk (merge_ok a n cap l a' n' cap' l' w hS hF hF' hc hc')
  have H2 := Hid.mk (fun W (hW : Below w.heap.size w W) => checkQueue_any hCF a n cap l W (cell_kept hW hD) (hF.kept hW))
  have H3 := Hid.mk (fun W (hW : Below w.heap.size w W) => checkQueue_any hCF a' n' cap' l' W (cell_kept hW hD) (hF'.kept hW))
  have HQ := Hid.mk (fun W (hW : Below w.heap.size w W) => queued_any W (hS.kept hW))
  have hall : ∀ k, ∀ u ∈ mrgV l (l'.take k), frE u.f = 0 := fun k u hu => by
    rcases mrgV_mem _ _ _ hu with h | h
    · exact q2 _ (List.mem_map_of_mem h)
    · exact q2' _ (List.mem_map_of_mem (List.mem_of_mem_take h))
  have HALL := Hid.mk hall
  have HE' := Hid.mk (show ∀ u ∈ l', frE u.f = 0 from fun u hu => q2' _ (List.mem_map_of_mem hu))
  have hml : (mrgF (l.map (·.f)) (l'.map (·.f))).length = n + n' := by rw [mrgF_len, List.length_map, List.length_map, hlen, hlen']
  have HML := Hid.mk hml
  have HF := Hid.mk hF
  have HF' := Hid.mk hF'
  have HD := Hid.mk hD
  have q3 : n ≤ 16 := by omega
  have q4 : n' ≤ 16 := by omega
  rw [hc] at H2
  rw [hc'] at H3
  have HL' := Hid.mk hlen'
  clear hc hc' q2 q2' hall hml hF hF' hD hS hlen hlen' q1 q1'
  go_enter Tryd.func4, Tryd.ntmps4
  go_wp2_with fail
  refine H1.out.mono ?_
  rintro e w1 ⟨r, l2, rfl, hf, ho, hb1⟩
  obtain ⟨am, cm, rfl, hM⟩ := ho.frames
  obtain ⟨M, hMM⟩ : ∃ M, M = l2.length := ⟨_, rfl⟩
  rw [← hMM] at hM ⊢
  have hMl : M = min 16 (n + n') := by rw [hMM, ← List.length_map (f := fun v : FrV => v.f), hf, List.length_take, HML.out]
  obtain ⟨D, hD⟩ : ∃ D, D = n + n' - 16 := ⟨_, rfl⟩
  rw [← hD]
  have HDD := Hid.mk hD
  have HMl := Hid.mk hMl
  have HFM := Hid.mk hf
  have HM1 := Hid.mk hM
  have HB1 := Hid.mk hb1
  clear hb1 ho hM hMM hMl hD hf
  go_wp2_with fail
  refine (H2.out _ HB1.out).mono ?_
  rintro e w2 ⟨rfl, hb2⟩
  have HB2 := Hid.mk (bl2 HB1.out hb2)
  have HM2 := Hid.mk (HM1.out.kept hb2)
  clear hb2
  go_wp2_with fail
  refine (H3.out _ HB2.out).mono ?_
  rintro e w3 ⟨rfl, hb3⟩
  have HB3 := Hid.mk (bl2 HB2.out hb3)
  have HM3 := Hid.mk (HM2.out.kept hb3)
  clear hb3
  go_wp2_with fail
  refine (HQ.out _ HB3.out).mono ?_
  rintro e w4 ⟨rfl, hb4⟩
  have HB4 := Hid.mk (bl2 HB3.out hb4)
  have HM4 := Hid.mk (HM3.out.kept hb4)
  clear hb4
  go_wp2_with fail
  go_loopw [9, 50] (fun r i wr => ∃ (k : Nat) (aw : Option Addr) (cw : Nat), k ≤ n' ∧ i = .int .i64 k ∧ r = .slice aw (n + k) cw ∧ Hid (IsFrames wr aw (n + k) cw (mrgV l (l'.take k))) ∧ Hid (IsFrames wr am M cm l2) ∧ Hid (Below w.heap.size w wr)) (fun _ i _ => n' - (intOf i).toNat)
  case atStart => exact ⟨0, a, cap, Nat.zero_le _, rfl, rfl, Hid.mk (HF.out.kept HB4.out), HM4, HB4⟩
  case round =>
    obtain ⟨k, aw, cw, hk, rfl, rfl, HW, HMr, HB⟩ := hrel
    by_cases hlt : k < n'
    · have hlt' : (k : Int) < (n' : Int) := by omega
      have hkl : k < l'.length := by rw [HL'.out]; exact hlt
      cases a' with
      | none => exact absurd (HF'.out.none rfl) (by omega)
      | some x =>
        have cc := fun (j : Nat) (hj : j < 6) => cell_kept HB.out (HF'.out.cell x rfl k hkl j hj)
        have hby := isBytes_below (HF'.out.bytes k hkl) (show Below w.heap.size w wr from HB.out)
        have hE1 := HE'.out _ (List.getElem_mem hkl)
        have hnx := mrgV_next l l' k hkl
        generalize l'[k] = v at *
        obtain ⟨⟨id, lo, fa, re, sz, dt⟩, va, vl, vc⟩ := v
        simp only at hby hE1
        have c0 := cc 0 (by omega)
        have c1 := cc 1 (by omega)
        have c2 := cc 2 (by omega)
        have c3 := cc 3 (by omega)
        have c4 := cc 4 (by omega)
        have c5 := cc 5 (by omega)
        rw [add_nextQ] at c1 c2 c3 c4 c5
        rw [Nat.add_zero] at c0
        simp only [FrV.cells, List.getElem_cons_zero, List.getElem_cons_succ, Nat.reduceAdd] at c0 c1 c2 c3 c4 c5
        have hbx := below_box wr id lo fa re sz va vl vc
        have hpf := putFrame_any aw (n + k) cw (mrgV l (l'.take k)) ⟨⟨id, lo, fa, re, sz, dt⟩, va, vl, vc⟩ _ (cell_kept (bl2 HB.out hbx) HD.out) (HW.out.kept hbx) (by omega) (isBytes_below hby hbx) (HALL.out k) hE1
        rw [← hnx] at hpf
        have HPF := Hid.mk hpf
        have HBX := Hid.mk hbx
        unfold frameC at HPF HBX
        unfold frameV at HPF
        simp only at HPF
        clear cc hby hE1 hnx hbx hpf
        go_wp2_with fail
        refine HPF.out.mono ?_
        rintro e w5 ⟨r5, c5, rfl, hF5, hb5⟩
        have hbt := bl2 HBX.out hb5
        have HB5 := Hid.mk (bl2 HB.out hbt)
        have HM5 := Hid.mk (HMr.out.kept hbt)
        have HF5 := Hid.mk hF5
        clear hb5 hbt hF5 c0 c1 c2 c3 c4
        go_wp2_with fail
        go_roundw
        case rel => exact ⟨k + 1, r5, _, by omega, by go_num, rfl, HF5, HM5, HB5⟩
        case measure => simp [intOf]; omega
    · obtain rfl : k = n' := by omega
      rw [List.take_of_length_le (by rw [HL'.out]; exact Nat.le_refl _)] at HW
      obtain ⟨s, hs⟩ : ∃ s, s = n + k := ⟨_, rfl⟩
      rw [← hs] at HW ⊢
      have hs32 : s ≤ 32 := by omega
      have hMs : M = min 16 s := by rw [hs]; exact HMl.out
      have hDs : D = s - 16 := by rw [hs]; exact HDD.out
      have hMLs : (mrgF (l.map (·.f)) (l'.map (·.f))).length = s := by rw [hs]; exact HML.out
      clear hs
      have htke : (mrgF (l.map (·.f)) (l'.map (·.f))).take 16 = (mrgF (l.map (·.f)) (l'.map (·.f))).take M := by
        rw [hMs]
        by_cases h : 16 ≤ s
        · rw [Nat.min_eq_left h]
        · rw [List.take_of_length_le (by omega), List.take_of_length_le (by omega)]
      have hmin : min (s : Int) 16 = (M : Int) := by omega
      have hD1 : (s : Int) - (M : Int) = (D : Int) := by omega
      have hMs' : M ≤ s := by omega
      have hKc : M ≤ cw := by have := HW.out.le; omega
      have hsl := fun W => slice_fh aw s cw M hKc W
      have HSF := Hid.mk (fun W (hW : Below wr.heap.size wr W) => sameFrs_true am M cm l2 aw cw ((mrgV l l').take M) W (HMr.out.kept hW) ((frames_take HW.out M hMs').kept hW) (by rw [HFM.out, List.map_take, mrgV_f]; exact htke))
      clear hMs hDs hMLs htke
      go_wp2_with fail
      refine (HSF.out _ (Below.refl _ _)).mono ?_
      rintro e w9 ⟨rfl, hb9⟩
      go_wp2_with fail
      go_ret
      exact ⟨rfl, bl2 HB.out hb9⟩
end Bw
end Go.Proofs.YthdffdobkampaaaDoor

/- The table of the numbers of bytes off the row's own condition. -/
namespace Go.Proofs.YthdffdobkampaaaDoor
open Go.ChangeShapes Go.WideShapes Go.ChangeAt Go.RowKit
namespace Bw
theorem fsz_eq : Rows.laid_omnibus_frame_sizes (H := Unit) = Lib.tabData .i64 sizesI := by kernel_rfl
theorem fsz_t : Tryd.prog.underlying 97 = some (.array 16 3) := by kernel_rfl
theorem fsz_c : Tryd.prog.cellsOf 97 = 16 := by kernel_rfl
theorem fsz_c1 : Tryd.prog.cellsOf 3 = 1 := by kernel_rfl
theorem fsz_g : Tryd.prog.globalNamed "omnibus/frame.sizes" = some 1 := by kernel_rfl
theorem fsz_y : (Tryd.prog.globals[1]?).map (·.type) = some 97 := by kernel_rfl
theorem sizes_of {W : World} {laid : List (String × DataW Unit)} (hL : laidMet Tryd.prog laid W)
    (h1 : ("omnibus/frame.sizes", Rows.laid_omnibus_frame_sizes) ∈ laid) : SizesAt W := by
  obtain ⟨g, t, cs, fuel, p, hg, hty, hvar, hd⟩ := Lib.laidMet.reads hL h1
  obtain rfl := Option.some.inj (fsz_g.symm.trans hg)
  obtain rfl := Option.some.inj (fsz_y.symm.trans hty)
  rw [fsz_eq] at hd
  have hcs := Lib.cells_of_tab fsz_t Tryd.underlying3 fsz_c1 fsz_c hd
  intro i hi
  have := World.var?_cell hg hvar i
  rw [this, ← Array.getElem?_toList, hcs]
  rw [List.getElem?_map, List.getElem?_eq_getElem hi]
  simp [List.getD, hi]
end Bw
end Go.Proofs.YthdffdobkampaaaDoor

/- The one cell of the table of math/bits that is read, off the row's own condition. -/
namespace Go.Proofs.YthdffdobkampaaaDoor
open Go.ChangeShapes Go.WideShapes Go.ChangeAt Go.RowKit
namespace Bw
def bruijnZ : List Int := [0, 1, 56, 2, 57, 49, 28, 3, 61, 58, 42, 50, 38, 29, 17, 4, 62, 47, 59, 36, 45, 43, 51, 22, 53, 39, 33, 30, 24, 18, 12, 5, 63, 55, 48, 27, 60, 41, 37, 16, 46, 35, 44, 21, 52, 32, 23, 11, 54, 26, 40, 15, 34, 20, 31, 10, 25, 14, 19, 9, 13, 8, 7, 6]
theorem bruijn_eq : Rows.laid_math_bits_deBruijn64tab (H := Unit) = Lib.tabData .u8 bruijnZ := by kernel_rfl
theorem bruijn_t : Tryd.prog.underlying 122 = some (.array 64 5) := by kernel_rfl
theorem bruijn_c : Tryd.prog.cellsOf 122 = 64 := by kernel_rfl
theorem bruijn_c1 : Tryd.prog.cellsOf 5 = 1 := by kernel_rfl
theorem bruijn_g : Tryd.prog.globalNamed "math/bits.deBruijn64tab" = some 4 := by kernel_rfl
theorem bruijn_y : (Tryd.prog.globals[4]?).map (·.type) = some 122 := by kernel_rfl
theorem bruijn_of {W : World} {laid : List (String × DataW Unit)} (hL : laidMet Tryd.prog laid W)
    (h1 : ("math/bits.deBruijn64tab", Rows.laid_math_bits_deBruijn64tab) ∈ laid) : W.cell? ⟨4, 1, none⟩ = some (.int .u8 1) := by
  obtain ⟨g, t, cs, fuel, p, hg, hty, hvar, hd⟩ := Lib.laidMet.reads hL h1
  obtain rfl := Option.some.inj (bruijn_g.symm.trans hg)
  obtain rfl := Option.some.inj (bruijn_y.symm.trans hty)
  rw [bruijn_eq] at hd
  have hcs := Lib.cells_of_tab bruijn_t Tryd.underlying5 bruijn_c1 bruijn_c hd
  have := World.var?_cell hg hvar 1
  rw [this, ← Array.getElem?_toList, hcs]
  rfl
end Bw
end Go.Proofs.YthdffdobkampaaaDoor

/- What QueueMerge answers: true. -/
namespace Go.Proofs.YthdffdobkampaaaDoor
open Go.ChangeShapes Go.WideShapes Go.ChangeAt Go.RowKit
namespace queueMerge
open Bw Bm
theorem walk (a : Option Addr) (n cap : Nat) (l : List FrV) (a' : Option Addr) (n' cap' : Nat) (l' : List FrV) (w : World) (hF : IsFrames w a n cap l) (hF' : IsFrames w a' n' cap' l') (hL : laidMet Tryd.prog Rows.queueMergeRow.laid w) :
    Calls Tryd.prog 4 #[.slice a n cap, .slice a' n' cap'] w fun e w' => e = .returned (.bool true) ∧ Below w.heap.size w w' := by
  have hS := sizes_of hL (by simp [Rows.queueMergeRow])
  have hD := bruijn_of hL (by simp [Rows.queueMergeRow])
  have hCF : CheckF := fun id lo fa re sz a len cap w h => checkFrame_any id lo fa re sz a len cap w h
  by_cases hc : chkQ (l.map (·.f)) = 0
  · by_cases hc' : chkQ (l'.map (·.f)) = 0
    · exact merge_okL hCF a n cap l a' n' cap' l' w hS hD hF hF' hc hc'
    · exact merge_badL hCF a n cap l a' n' cap' l' w hS hD hF hF' (by unfold mrgE; rw [if_pos hc]; exact hc')
  · exact merge_badL hCF a n cap l a' n' cap' l' w hS hD hF hF' (by unfold mrgE; rw [if_neg hc]; exact hc)
end queueMerge
end Go.Proofs.YthdffdobkampaaaDoor
