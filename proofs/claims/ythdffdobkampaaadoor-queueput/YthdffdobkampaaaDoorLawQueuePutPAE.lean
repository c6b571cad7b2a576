/- Joined out of our texts: QSame, QOwn, QRenew, NoFrame, QputLawA, QputKit, QputLawB, QputLawC, QputLawD. -/
import Derived.Test.YthdffdobkampaaaDoorLawQueuePutPAD
import Derived.Test.YthdffdobkampaaaDoorLawQueuePutPAC
import Derived.Test.YthdffdobkampaaaDoorLawQueuePutPAB
import Derived.Shelf.Spec.SlicesInsert
/- What the document's own SameFrames answers of frames that are alike. -/
namespace Go.Proofs.YthdffdobkampaaaDoor
open Go.ChangeShapes Go.WideShapes Go.ChangeAt Go.RowKit
namespace Bw
open Bm Cm
set_option maxHeartbeats 1000000 in
set_option maxRecDepth 100000 in
theorem equalFr_true (a : Option Addr) (n c : Nat) (l : List FrV) (a' : Option Addr) (c' : Nat) (l' : List FrV) (w : World) (hF : IsFrames w a n c l) (hF' : IsFrames w a' n c' l') (he : l.map (·.f) = l'.map (·.f)) :
    Calls Tryd.prog 32 #[.slice a n c, .slice a' n c', .func (.func 16) #[] #[]] w fun e w' => e = .returned (.bool true) ∧ Below w.heap.size w w' := by
  have hmx : n ≤ 9223372036854775807 := by have := Nat.le_trans hF.le hF.max; unfold maxLen at this; omega
  have HF := Hid.mk hF
  have HF' := Hid.mk hF'
  have HE := Hid.mk he
  clear hF hF' he
  go_enter Tryd.func32, Tryd.ntmps32
  go_wp2_with fail
  go_loopw [17] (fun i wr => ∃ (k : Nat), k ≤ n ∧ i = .int .i64 k ∧ Hid (Below w.heap.size w wr)) (fun i _ => n - (intOf i).toNat)
  case atStart => exact ⟨0, Nat.zero_le _, rfl, Hid.mk (Below.refl _ _)⟩
  case round =>
    obtain ⟨k, hk, rfl, HB⟩ := hrel
    by_cases hlt : k < n
    · have hlt' : (k : Int) < (n : Int) := by omega
      have hkl : k < l.length := by rw [HF.out.len]; exact hlt
      have hkl' : k < l'.length := by rw [HF'.out.len]; exact hlt
      cases a with
      | none => exact absurd (HF.out.none rfl) (by omega)
      | some x =>
        cases a' with
        | none => exact absurd (HF'.out.none rfl) (by omega)
        | some y =>
          have cc := fun (j : Nat) (hj : j < 6) => cell_kept HB.out (HF.out.cell x rfl k hkl j hj)
          have dd := fun (j : Nat) (hj : j < 6) => cell_kept HB.out (HF'.out.cell y rfl k hkl' j hj)
          have hby := isBytes_below (HF.out.bytes k hkl) (show Below w.heap.size w wr from HB.out)
          have hby' := isBytes_below (HF'.out.bytes k hkl') (show Below w.heap.size w wr from HB.out)
          have hff : l[k].f = l'[k].f := by
            have h1 : (l.map (·.f))[k]? = some l[k].f := by rw [List.getElem?_map, List.getElem?_eq_getElem hkl]; rfl
            have h2 : (l'.map (·.f))[k]? = some l'[k].f := by rw [List.getElem?_map, List.getElem?_eq_getElem hkl']; rfl
            rw [HE.out, h2] at h1
            exact (Option.some.inj h1).symm
          generalize l[k] = v at *
          generalize l'[k] = u at *
          obtain ⟨⟨id, lo, fa, re, sz, dt⟩, va, vl, vc⟩ := v
          obtain ⟨f', ua, ul, uc⟩ := u
          simp only at hff
          subst hff
          simp only at hby hby'
          have c0 := cc 0 (by omega)
          have c1 := cc 1 (by omega)
          have c2 := cc 2 (by omega)
          have c3 := cc 3 (by omega)
          have c4 := cc 4 (by omega)
          have c5 := cc 5 (by omega)
          rw [add_nextQ] at c1 c2 c3 c4 c5
          rw [Nat.add_zero] at c0
          simp only [FrV.cells, List.getElem_cons_zero, List.getElem_cons_succ, Nat.reduceAdd] at c0 c1 c2 c3 c4 c5
          have d0 := dd 0 (by omega)
          have d1 := dd 1 (by omega)
          have d2 := dd 2 (by omega)
          have d3 := dd 3 (by omega)
          have d4 := dd 4 (by omega)
          have d5 := dd 5 (by omega)
          rw [add_nextQ] at d1 d2 d3 d4 d5
          rw [Nat.add_zero] at d0
          simp only [FrV.cells, List.getElem_cons_zero, List.getElem_cons_succ, Nat.reduceAdd] at d0 d1 d2 d3 d4 d5
          have hb1 := below_box wr id lo fa re sz va vl vc
          have hb2 := below_box (wr.alloc (frameC id lo fa re sz va vl vc)) id lo fa re sz ua ul uc
          have hb12 := bl2 hb1 hb2
          have hsm := sameFrame_true ⟨id, lo, fa, re, sz, dt⟩ va ua vl vc ul uc _ (isBytes_below hby hb12) (isBytes_below hby' hb12)
          have HSM := Hid.mk hsm
          have HB2 := Hid.mk (bl2 HB.out hb12)
          have e0 := cell_kept hb1 d0
          have e1 := cell_kept hb1 d1
          have e2 := cell_kept hb1 d2
          have e3 := cell_kept hb1 d3
          have e4 := cell_kept hb1 d4
          have e5 := cell_kept hb1 d5
          unfold frameC at HSM HB2 e0 e1 e2 e3 e4 e5
          unfold frameV at HSM
          simp only at HSM
          clear cc dd hby hby' hb1 hb2 hb12 hsm d0 d1 d2 d3 d4 d5
          go_wp2_with fail
          refine HSM.out.mono ?_
          rintro e w3 ⟨rfl, hb3⟩
          have HB3 := Hid.mk (bl2 HB2.out hb3)
          clear hb3 c0 c1 c2 c3 c4 c5 e0 e1 e2 e3 e4 e5
          go_wp2_with fail
          go_roundw
          case rel => exact ⟨k + 1, by omega, by go_num, HB3⟩
          case measure => simp [intOf]; omega
    · obtain rfl : k = n := by omega
      go_wp2_with fail
      go_ret
      exact ⟨rfl, HB.out⟩
set_option maxHeartbeats 1000000 in
theorem sameFrs_true (a : Option Addr) (n c : Nat) (l : List FrV) (a' : Option Addr) (c' : Nat) (l' : List FrV) (w : World) (hF : IsFrames w a n c l) (hF' : IsFrames w a' n c' l') (he : l.map (·.f) = l'.map (·.f)) :
    Calls Tryd.prog 14 #[.slice a n c, .slice a' n c'] w fun e w' => e = .returned (.bool true) ∧ Below w.heap.size w w' := by
  have H1 := Hid.mk (equalFr_true a n c l a' c' l' w hF hF' he)
  clear hF hF' he
  go_enter Tryd.func14, Tryd.ntmps14
  go_wp2_with fail
  refine H1.out.mono ?_
  rintro e w1 ⟨rfl, hb1⟩
  go_wp2_with fail
  go_ret
  exact ⟨rfl, hb1⟩
end Bw
end Go.Proofs.YthdffdobkampaaaDoor

/- What the laws' ownFrames answers. -/
namespace Go.Proofs.YthdffdobkampaaaDoor
open Go.ChangeShapes Go.WideShapes Go.ChangeAt Go.RowKit
namespace Bw
open Bm Cm
set_option maxHeartbeats 2000000 in
set_option maxRecDepth 100000 in
theorem ownFrames_any (a : Option Addr) (n c : Nat) (l : List FrV) (w : World) (hF : IsFrames w a n c l) (hn : n * 48 ≤ 140737488351232) (hd : ∀ v ∈ l, v.len ≤ 140737488351232) :
    Calls Tryd.prog 7 #[.slice a n c] w fun e w' => ∃ r l', e = .returned r ∧ l'.length = n ∧ l'.map (·.f) = l.map (·.f) ∧ OwnFrs w' w.heap.size r l' ∧ Below w.heap.size w w' := by
  obtain ⟨i0, hi, hz0, hz1, hz2⟩ := info_parts info_fr
  have HF := Hid.mk hF
  have HD := Hid.mk hd
  have HLEN := Hid.mk hF.len
  clear hF hd
  go_enter Tryd.func7, Tryd.ntmps7
  go_wp2_with fail
  go_loopw [3, 8] (fun r i wr => ∃ (k : Nat) (l' : List FrV), k ≤ n ∧ i = .int .i64 k ∧ Hid (l'.length = k ∧ l'.map (·.f) = (l.take k).map (·.f)) ∧ Hid (OwnFrs wr w.heap.size r l') ∧ Hid (Below w.heap.size w wr)) (fun _ i _ => n - (intOf i).toNat)
  case atStart => exact ⟨0, [], Nat.zero_le _, rfl, Hid.mk ⟨rfl, rfl⟩, Hid.mk (OwnFrs.nil _ _), Hid.mk (Below.refl _ _)⟩
  case round =>
    obtain ⟨k, l', hk, rfl, HM, HO, HB⟩ := hrel
    by_cases hlt : k < n
    · have hlt' : (k : Int) < (n : Int) := by omega
      have hkl : k < l.length := by rw [HLEN.out]; exact hlt
      cases a with
      | none => exact absurd (HF.out.none rfl) (by omega)
      | some x =>
        have cc := fun (j : Nat) (hj : j < 6) => cell_kept HB.out (HF.out.cell x rfl k hkl j hj)
        have hby := isBytes_below (HF.out.bytes k hkl) (show Below w.heap.size w wr from HB.out)
        have hdl := HD.out _ (List.getElem_mem hkl)
        have htk : (l.take (k + 1)).map (·.f) = (l.take k).map (·.f) ++ [l[k].f] := by rw [List.take_succ_eq_append_getElem hkl, List.map_append]; rfl
        generalize l[k] = v at *
        obtain ⟨⟨id, lo, fa, re, sz, dt⟩, va, vl, vc⟩ := v
        simp only at hby hdl htk
        have c0 := cc 0 (by omega)
        have c1 := cc 1 (by omega)
        have c2 := cc 2 (by omega)
        have c3 := cc 3 (by omega)
        have c4 := cc 4 (by omega)
        have c5 := cc 5 (by omega)
        rw [add_nextQ] at c1 c2 c3 c4 c5
        rw [Nat.add_zero] at c0
        simp only [FrV.cells, List.getElem_cons_zero, List.getElem_cons_succ, Nat.reduceAdd] at c0 c1 c2 c3 c4 c5
        have hbx := below_box wr id lo fa re sz va vl vc
        have how := own_blk ⟨id, lo, fa, re, sz, dt⟩ va vl vc _ (isBytes_below hby hbx) hdl
        have HOW := Hid.mk how
        have HBX := Hid.mk hbx
        have HTK := Hid.mk htk
        have HLT := Hid.mk (own_lt HO.out.row)
        have HML := Hid.mk HM.out.1
        have hsz : (wr.alloc (frameC id lo fa re sz va vl vc)).heap.size = wr.heap.size + 1 := by simp
        have HSZ := Hid.mk hsz
        have HSW := Hid.mk HB.out.size
        unfold frameC at HOW HBX HSZ
        unfold frameV at HOW
        simp only at HOW
        clear cc hby hdl htk hbx how hsz
        go_wp2_with fail
        refine HOW.out.mono ?_
        rintro e w2 ⟨a2, cq, rfl, hY2, hblk2, hb2⟩
        have hbr2 := bl2 HBX.out hb2
        rw [HSZ.out] at hblk2
        have HS2 := Hid.mk hbr2.size
        have HY2 := Hid.mk hY2
        have HBL := Hid.mk hblk2
        have HO2 := Hid.mk (HO.out.kept hbr2)
        have HB2 := Hid.mk (bl2 HB.out hbr2)
        clear hY2 hblk2 hb2 hbr2 c0 c1 c2 c3 c4 c5
        go_wp2_with (at_builtin; refine wpList_append_two rfl (.tmp 12) (.tmp 15) 22 rfl w.heap.size 25 i0 (.agg #[.int .i64 0, .bool false, .bool false, .bool false, .int .i64 0, .slice none 0 0]) 6 48 Tryd.underlying22 hi hz0 hz1 hz2 rfl (by decide) _ _ _ rfl (HO2.out.row.alloc _) ⟨w2.heap.size, 0, none⟩ 1 1 [.int .i64 id, .bool lo, .bool fa, .bool re, .int .i64 sz, .slice a2 vl cq] rfl rfl (new_cells rfl _ _) (by intro u hu; simp at hu; rcases hu with rfl | rfl | rfl | rfl | rfl | rfl <;> rfl) (by decide) (by have := HML.out; unfold maxLen; omega) (by have := HML.out; omega) (by have := HB2.out.size; simp; omega) ?_; intro v3 w3 hown3 hgrow3 hblk3)
        have hb4 : Below w2.heap.size w2 (w2.alloc (.cells #[.int .i64 id, .bool lo, .bool fa, .bool re, .int .i64 sz, .slice a2 vl cq] 25)) := (Below.refl _ _).alloc (Nat.le_refl _) _
        have hO4 := (HO2.out.kept hb4).add (v := ⟨⟨id, lo, fa, re, sz, dt⟩, a2, vl, cq⟩) (isBytes_below HY2.out hb4) (by intro x hx e; have := HBL.out x hx; have := HLT.out _ e; omega) (by intro x hx; have := HBL.out x hx; have := HSW.out; omega) hown3 hgrow3 hblk3
        have hB5 := Below.grown (bl2 HB2.out hb4) hgrow3 (by have := HB2.out.size; simp; omega) (fun q hq => (HO2.out.row.lt q hq).1)
        clear hown3 hgrow3 hblk3 hb4
        go_wp2_with fail
        go_roundw
        case rel => exact ⟨k + 1, l' ++ [⟨⟨id, lo, fa, re, sz, dt⟩, a2, vl, cq⟩], by omega, by go_num, Hid.mk ⟨by rw [List.length_append, HML.out]; rfl, by rw [List.map_append, HM.out.2, HTK.out]; rfl⟩, Hid.mk hO4, Hid.mk hB5⟩
        case measure => simp [intOf]; omega
    · obtain rfl : k = n := by omega
      go_wp2_with fail
      go_ret
      have hfe : l'.map (·.f) = l.map (·.f) := by rw [HM.out.2, List.take_of_length_le (by rw [HLEN.out]; exact Nat.le_refl _)]
      exact ⟨_, rfl, l', HM.out.1, hfe, HO.out, HB.out⟩
end Bw
end Go.Proofs.YthdffdobkampaaaDoor

/- What queue.Renew answers. -/
namespace Go.Proofs.YthdffdobkampaaaDoor
open Go.ChangeShapes Go.WideShapes Go.ChangeAt Go.RowKit
namespace Bw
open Bm Cm
theorem padA_put (l : List FrV) (k : Nat) (v : FrV) (h : k < l.length) : (padA l l.length).set k (entOf v) = (l.set k v).map entOf ++ List.replicate (32 - l.length) zE := by
  rw [padA_all, List.set_append_left _ _ (by simpa using h), List.map_set]
set_option maxHeartbeats 1000000 in
set_option maxRecDepth 100000 in
theorem renew_bad (a : Option Addr) (n cap : Nat) (l : List FrV) (v : FrV) (w : World) (hS : SizesAt w) (hF : IsFrames w a n cap l) (hY : IsBytes w v.a v.len v.cap v.f.dt) (hq : leE l v.f ≠ 0) :
    Calls Tryd.prog 9 #[.slice a n cap, frameV v.f.id v.f.lo v.f.fa v.f.re v.f.sz v.a v.len v.cap] w fun e w' => e = .returned (.tuple #[.slice none 0 0, .int .i64 (leE l v.f)]) ∧ Below w.heap.size w w' := by
  have hb0 := below_box w v.f.id v.f.lo v.f.fa v.f.re v.f.sz v.a v.len v.cap
  have h1 := le_any a n cap l v _ (hS.kept hb0) (hF.kept hb0) (isBytes_below hY hb0)
  have H1 := Hid.mk h1
  have KB := Hid.mk hb0
  have HFL := Hid.mk hF
  have HYV := Hid.mk hY
  unfold frameV at H1 ⊢
  unfold frameC at H1 KB
  clear hb0 h1 hS hF hY
  have hne : (leE l v.f != 0) = true := by simpa using hq
  generalize leE l v.f = le at *
  go_enter Tryd.func9, Tryd.ntmps9
  go_wp2_with fail
  refine H1.out.mono ?_
  rintro e w1 ⟨B, m, x, rfl, hBl, hok, hb1⟩
  obtain ⟨t0, t1, t2⟩ := two_new w1 _ rfl
  have KB1 := Hid.mk (bl2 KB.out (bl2 hb1 t2))
  have T0 := Hid.mk t0
  have T1 := Hid.mk t1
  have HOK := Hid.mk hok
  have hsz := (bl2 KB.out hb1).size
  have HLN := Hid.mk hsz
  clear hb1 t0 t1 t2 hok hsz
  go_wp2_with (first | ((with_reducible_and_instances refine wpl_store_line (.tmp 6) (.tmp 14) w1.heap.size (List.replicate 32 zE) B 0 m ?_ ?_ T0.out hBl ?_); rfl; rfl; intro w5 hL5 hT5; have HT5 := Hid.mk hT5; clear hL5 hT5) | ((with_reducible_and_instances refine wpl_store_own (.tmp 7) (.tmp 15) (w1.heap.size + 1) zE x ?_ ?_ (T1.out.tch HT5.out (by simp)) ?_); rfl; rfl; intro w6 hE6 hT6; have HB6 := Hid.mk (Tch.below (Tch.below KB1.out HT5.out (by simp; exact HLN.out) (Nat.le_refl _)) hT6 (by simp; have := HLN.out; omega) (Nat.le_refl _)); clear hE6 hT6))
  go_ret2
  exact ⟨rfl, HB6.out⟩
/-- what it answers of what is right: the first of its name, or none -/
def RenP (l : List FrV) (v : FrV) (w : World) (e : Ending) (w' : World) : Prop :=
  (∃ i, ∃ hi : i < l.length, nameL l[i].f = nameL v.f ∧ (∀ j (hj : j < l.length), j < i → nameL l[j].f ≠ nameL v.f) ∧ ∃ r l', e = .returned (.tuple #[r, .int .i64 0]) ∧ OwnFrs w' w.heap.size r l' ∧ l'.map (·.f) = (l.map (·.f)).set i v.f ∧ Below w.heap.size w w') ∨
  ((∀ j (hj : j < l.length), nameL l[j].f ≠ nameL v.f) ∧ ∃ r l', e = .returned (.tuple #[r, .int .i64 (putE l v.f)]) ∧ OwnFrs w' w.heap.size r l' ∧ (putE l v.f = 0 → l'.map (·.f) = putF (l.map (·.f)) v.f) ∧ (putE l v.f ≠ 0 → r = .slice none 0 0 ∧ l' = []) ∧ Below w.heap.size w w')
set_option maxHeartbeats 2000000 in
set_option maxRecDepth 100000 in
theorem renew_ok (a : Option Addr) (n cap : Nat) (l : List FrV) (v : FrV) (w : World) (hS : SizesAt w) (hF : IsFrames w a n cap l) (hY : IsBytes w v.a v.len v.cap v.f.dt) (hq : leE l v.f = 0) :
    Calls Tryd.prog 9 #[.slice a n cap, frameV v.f.id v.f.lo v.f.fa v.f.re v.f.sz v.a v.len v.cap] w fun e w' => RenP l v w e w' := by
  have hb0 := below_box w v.f.id v.f.lo v.f.fa v.f.re v.f.sz v.a v.len v.cap
  have h1 := le_any a n cap l v _ (hS.kept hb0) (hF.kept hb0) (isBytes_below hY hb0)
  have H1 := Hid.mk h1
  have KB := Hid.mk hb0
  have HFL := Hid.mk hF
  have HYV := Hid.mk hY
  unfold frameV at H1 ⊢
  unfold frameC at H1 KB
  clear hb0 h1 hS hF hY
  obtain ⟨hc, hE⟩ : chkQ (l.map (·.f)) = 0 ∧ frE v.f = 0 := by
    unfold leE at hq
    split at hq
    · rename_i h; exact ⟨h, hq⟩
    · rename_i h; exact absurd hq h
  obtain ⟨q1, q2, _⟩ := chk_ok hc
  rw [List.length_map] at q1
  have hlen := HFL.out.len
  have HPT := Hid.mk (fun W (hb : Below w.heap.size w W) => put_any l v W hq (fun u hu => isBytes_below (HFL.out.all u hu) hb) (isBytes_below HYV.out hb))
  have HFO := Hid.mk (fun k W (hb : Below w.heap.size w W) => framesOf_any (l.set k v) (List.replicate (32 - l.length) zE) W (by rw [List.length_set, List.length_replicate]; omega) (fun u hu => by
      rcases List.mem_or_eq_of_mem_set hu with h | h
      · exact isBytes_below (HFL.out.all u h) hb
      · rw [h]; exact isBytes_below HYV.out hb) (fun u hu => by
      rcases List.mem_or_eq_of_mem_set hu with h | h
      · exact q2 _ (List.mem_map_of_mem h)
      · rw [h]; exact hE))
  have hL16 : l.length ≤ 16 := q1
  rw [hq] at H1
  clear hc hE q2 q1 hlen hq
  go_enter Tryd.func9, Tryd.ntmps9
  go_wp2_with fail
  refine H1.out.mono ?_
  rintro e w1 ⟨B, m, x, rfl, hBl, hok, hb1⟩
  obtain ⟨t0, t1, t2⟩ := two_new w1 _ rfl
  have KB1 := Hid.mk (bl2 KB.out (bl2 hb1 t2))
  have T0 := Hid.mk t0
  have T1 := Hid.mk t1
  have HOK := Hid.mk hok
  have hsz := (bl2 KB.out hb1).size
  have HLN := Hid.mk hsz
  clear hb1 t0 t1 t2 hok hsz
  obtain ⟨rfl, rfl, rfl⟩ := HOK.out trivial
  clear HOK
  go_wp2_with (first | ((with_reducible_and_instances refine wpl_store_line (.tmp 6) (.tmp 14) w1.heap.size (List.replicate 32 zE) (padA l l.length) 0 l.length ?_ ?_ T0.out hBl ?_); rfl; rfl; intro w5 hL5 hT5; have HL5 := Hid.mk hL5; have HT5 := Hid.mk hT5; clear hL5 hT5) | ((with_reducible_and_instances refine wpl_store_own (.tmp 7) (.tmp 15) (w1.heap.size + 1) zE (entOf v) ?_ ?_ (T1.out.tch HT5.out (by simp)) ?_); rfl; rfl; intro w6 hE6 hT6; have HE6 := Hid.mk hE6; have hL6 := HL5.out.tch hT6 (by simp); have c224 := hL6.size; have HL6 := Hid.mk hL6; have HB6 := Hid.mk (Tch.below (Tch.below KB1.out HT5.out (by simp; exact HLN.out) (Nat.le_refl _)) hT6 (by simp; have := HLN.out; omega) (Nat.le_refl _)); clear hE6 hT6 hL6))
  go_loopw [22] (fun i wr => ∃ (k : Nat), k ≤ l.length ∧ i = .int .i64 k ∧ Hid (∀ j (hj : j < l.length), j < k → nameL l[j].f ≠ nameL v.f) ∧ Hid (LnAt wr w1.heap.size (padA l l.length) l.length) ∧ Hid (EnAt wr (w1.heap.size + 1) (entOf v)) ∧ Hid (Below w.heap.size w wr)) (fun i _ => l.length - (intOf i).toNat)
  case atStart => exact ⟨0, Nat.zero_le _, rfl, Hid.mk (fun j hj h => absurd h (Nat.not_lt_zero _)), HL6, HE6, HB6⟩
  case round =>
    obtain ⟨k, hk, rfl, HNO, HL, HE, HB⟩ := hrel
    by_cases hlt : k < l.length
    · have hlt' : (k : Int) < (l.length : Int) := by omega
      have hk0 : (0 : Int) ≤ (k : Int) := by omega
      have hk32 : (k : Int) < 32 := by omega
      have n1 : wr.cell? ⟨w1.heap.size, k * 7, none⟩ = some (.string ⟨(nameL l[k].f).toArray⟩) := by
        refine (show wr.cell? ⟨w1.heap.size, k * 7 + 0, none⟩ = _ from ?_)
        rw [HL.out.cell k 0 (by omega) (by omega), padA_name l l.length k hlt (Nat.le_refl _) (by omega)]
        rfl
      have n2 := HE.out.name
      have n2' : wr.cell? ⟨w1.heap.size + 1, 0, none⟩ = some (.string ⟨(nameL v.f).toArray⟩) := n2
      have hkA : k < (padA l l.length).length := by rw [padA_len l l.length (Nat.le_refl _) (by omega)]; omega
      have HSET := Hid.mk (padA_put l k v hlt)
      have hsl : (l.set k v).length = l.length := List.length_set
      have HFK := Hid.mk (HFO.out k)
      rw [hsl] at HFK
      generalize (l.set k v).map entOf ++ List.replicate (32 - l.length) zE = RL at *
      have hmf : (l.set k v).map (·.f) = (l.map (·.f)).set k v.f := List.map_set
      have HMF := Hid.mk hmf
      clear n2 hsl hmf
      by_cases he : nameL l[k].f = nameL v.f
      · have HEQ := Hid.mk he
        rw [he] at n1
        obtain ⟨nm, hnm⟩ : ∃ nm, nm = nameL v.f := ⟨_, rfl⟩
        rw [← hnm] at n1 n2'
        clear hnm
        have hbq : ((ByteArray.mk nm.toArray).toList == (ByteArray.mk nm.toArray).toList) = true := by simp
        clear he
        go_wp2_with fail
        go_quiet (fail)
        have HLq := Hid.mk (HL.out.drewN nq)
        have HEq := Hid.mk (show EnAt (wr.drewN nq) (w1.heap.size + 1) (entOf v) from HE.out)
        have HBq := Hid.mk (HB.out.trans (show Below w.heap.size wr (wr.drewN nq) from ⟨rfl, rfl, rfl, Nat.le_refl _, fun _ _ => rfl⟩))
        go_wp2_with (first | ((with_reducible_and_instances refine wpl_load_own (.tmp 7) (w1.heap.size + 1) (entOf v) ?_ HEq.out ?_); rfl) | ((with_reducible_and_instances refine wpl_store_ent (.tmp 36) (.tmp 34) w1.heap.size (k * 7) k (padA l l.length) l.length (entOf v) ?_ ?_ HLq.out rfl hkA ?_); rfl; rfl; intro w8 hL8 hT8; have HB8 := Hid.mk (Tch.below HBq.out hT8 (by simp; exact HLN.out) (Nat.le_refl _)); rw [HSET.out] at hL8; have HL8 := Hid.mk hL8; clear hL8 hT8) | ((with_reducible_and_instances refine wpl_load_line (.tmp 6) w1.heap.size _ _ ?_ HL8.out ?_); rfl) | ((with_reducible_and_instances refine wpl_load_line (.tmp 6) w1.heap.size [] 0 ?_ ?_ ?_)))
        refine (HFK.out _ HB8.out).mono ?_
        rintro e w9 ⟨r, l', rfl, hf, ho, hb9⟩
        go_wp2_with fail
        go_ret2
        exact .inl ⟨k, hlt, HEQ.out, fun j hj h => HNO.out j hj h, r, l', rfl, ho.mono HB8.out.size, hf.trans HMF.out, bl2 HB8.out hb9⟩
      · have HNE := Hid.mk (show ∀ j (hj : j < l.length), j < k + 1 → nameL l[j].f ≠ nameL v.f from fun j hj h => by
          by_cases e : j = k
          · subst e; exact he
          · exact HNO.out j hj (by omega))
        have hbq : ((ByteArray.mk (nameL l[k].f).toArray).toList == (ByteArray.mk (nameL v.f).toArray).toList) = false := by
          rw [ByteArray.toList_eq, ByteArray.toList_eq]
          simpa using he
        have hbq2 : (nameL l[k].f == nameL v.f) = false := by simpa using he
        obtain ⟨nm, hnm⟩ : ∃ nm, nm = nameL v.f := ⟨_, rfl⟩
        rw [← hnm] at n2' hbq hbq2
        clear hnm
        obtain ⟨nk, hnk⟩ : ∃ nk, nk = nameL l[k].f := ⟨_, rfl⟩
        rw [← hnk] at n1 hbq hbq2
        clear hnk he
        go_wp2_with fail
        go_quiet (fail)
        have HBq := Hid.mk (HB.out.trans (show Below w.heap.size wr (wr.drewN nq) from ⟨rfl, rfl, rfl, Nat.le_refl _, fun _ _ => rfl⟩))
        go_wp2_with fail
        go_roundw
        case rel => exact ⟨k + 1, by omega, by go_num, HNE, Hid.mk (HL.out.drewN nq), Hid.mk (show EnAt (wr.drewN nq) (w1.heap.size + 1) (entOf v) from HE.out), HBq⟩
        case measure => simp [intOf]; omega
    · obtain rfl : k = l.length := by omega
      go_wp2_with (first | ((with_reducible_and_instances refine wpl_load_line (.tmp 6) w1.heap.size _ _ ?_ HL.out ?_); rfl) | ((with_reducible_and_instances refine wpl_load_own (.tmp 7) (w1.heap.size + 1) (entOf v) ?_ HE.out ?_); rfl))
      refine (HPT.out _ HB.out).mono ?_
      rintro e w7 ⟨r, l', rfl, ho, hf, hn, hb7⟩
      go_wp2_with fail
      go_ret2
      exact .inr ⟨fun j hj => HNO.out j hj hj, r, l', rfl, ho.mono HB.out.size, hf, hn, bl2 HB.out hb7⟩
end Bw
end Go.Proofs.YthdffdobkampaaaDoor

/- What the laws' noFrame answers of no frame. -/
namespace Go.Proofs.YthdffdobkampaaaDoor
open Go.ChangeShapes Go.WideShapes Go.ChangeAt Go.RowKit
namespace Bw
open Bm Cm
theorem nilBytesN (w : World) : IsBytes w none 0 0 [] := ⟨rfl, Nat.le_refl _, Nat.zero_le _, fun _ => rfl, fun x hx => by cases hx⟩
set_option maxHeartbeats 4000000 in
theorem noFrameN (w : World) :
    Calls Tryd.prog 15 #[.agg #[.int .i64 0, .bool false, .bool false, .bool false, .int .i64 0, .slice none 0 0]] w fun e w' => e = .returned (.bool true) ∧ Below w.heap.size w w' := by
  have a1 := fun W => sameFrame_true ⟨0, false, false, false, 0, []⟩ none none 0 0 0 0 W (nilBytesN W) (nilBytesN W)
  unfold frameV at a1
  simp only at a1
  have HA1 := Hid.mk a1
  clear a1
  go_enter Tryd.func15, Tryd.ntmps15
  go_wp2_with fail
  refine (HA1.out _).mono ?_
  rintro e w1 ⟨rfl, hb1⟩
  go_wp2_with fail
  go_ret
  exact ⟨rfl, bl2 (below_box w 0 false false false 0 none 0 0) hb1⟩
end Bw
end Go.Proofs.YthdffdobkampaaaDoor

/- QueuePut's walk: what is wrong with the queue. -/
namespace Go.Proofs.YthdffdobkampaaaDoor
open Go.ChangeShapes Go.WideShapes Go.ChangeAt Go.RowKit
namespace Bw
open Bm Cm
set_option maxHeartbeats 2000000 in
set_option maxRecDepth 100000 in
theorem put_badL (hCF : CheckF) (a : Option Addr) (n cap : Nat) (l : List FrV) (v : FrV) (w : World) (hS : SizesAt w) (hD : w.cell? ⟨4, 1, none⟩ = some (.int .u8 1)) (hF : IsFrames w a n cap l) (hY : IsBytes w v.a v.len v.cap v.f.dt) (hn : n * 48 ≤ 140737488351232) (hd : ∀ u ∈ l, u.len ≤ 140737488351232) (hq : chkQ (l.map (·.f)) ≠ 0) :
    Calls Tryd.prog 3 #[.slice a n cap, frameV v.f.id v.f.lo v.f.fa v.f.re v.f.sz v.a v.len v.cap] w fun e w' => e = .returned (.bool true) ∧ Below w.heap.size w w' := by
  obtain ⟨⟨id, lo, fa, re, sz, dt⟩, va, vl, vc⟩ := v
  simp only at hY ⊢
  have hb0 := below_box w id lo fa re sz va vl vc
  have HOW := Hid.mk (ownFrames_any a n cap l _ (hF.kept hb0) hn hd)
  have HK0 := Hid.mk (FrAt.box w id lo fa re sz va vl vc)
  have HBB := Hid.mk hb0
  have HF := Hid.mk hF
  have HYV := Hid.mk (show ∀ W, Below w.heap.size w W → IsBytes W va vl vc dt from fun W hb => isBytes_below hY hb)
  have HCQ := Hid.mk (fun W (hW : Below w.heap.size w W) => checkQueue_any hCF a n cap l W (cell_kept hW hD) (hF.kept hW))
  have HQC := Hid.mk (fun W (hW : Below w.heap.size w W) => check_qany a n cap l W (hS.kept hW) (hF.kept hW))
  have HQ := Hid.mk (fun W (hW : Below w.heap.size w W) => queued_any W (hS.kept hW))
  have HS := Hid.mk hS
  have HD := Hid.mk hD
  have HCF := Hid.mk hCF
  have HLEN := Hid.mk hF.len
  unfold frameV
  unfold frameC at HOW HK0 HBB
  clear hb0 hF hY hn hd hS hD hCF
  have hne : (chkQ (l.map (·.f)) != 0) = true := by simpa using hq
  have HNE := Hid.mk hq
  go_enter Tryd.func3, Tryd.ntmps3
  go_wp2_with fail
  refine HOW.out.mono ?_
  rintro e w1 ⟨r0, l0, rfl, hl0, hf0, ho0, hb1⟩
  obtain ⟨a0, c0, rfl, hI0⟩ := ho0.frames
  rw [hl0] at hI0 ⊢
  have HB1 := Hid.mk (bl2 HBB.out hb1)
  have HK1 := Hid.mk (HK0.out.kept hb1)
  have HI1 := Hid.mk hI0
  have HF0 := Hid.mk hf0
  obtain ⟨k0, k1, k2, k3, k4, k5⟩ := HK1.out
  clear hb1 ho0 hI0 hl0 HOW HBB HK0
  have hleq : ∀ g, leE l0 g = leE l g := fun g => by unfold leE; rw [HF0.out]
  have hl0n : l0.length = l.length := by have := congrArg List.length HF0.out; simpa using this
  have hpeq : ∀ g, putE l0 g = putE l g := fun g => by unfold putE; rw [hleq, hl0n]
  have HLQ := Hid.mk hleq
  have HPQ := Hid.mk hpeq
  have HL0 := Hid.mk hl0n
  clear hleq hl0n hpeq
  have hle : leE l0 ⟨id, lo, fa, re, sz, dt⟩ = chkQ (l.map (·.f)) := by rw [HLQ.out]; unfold leE; rw [if_neg HNE.out]
  have hpe : putE l0 ⟨id, lo, fa, re, sz, dt⟩ = chkQ (l.map (·.f)) := by unfold putE; rw [hle, if_neg HNE.out]
  have h2 := Put_any a0 n c0 l0 ⟨⟨id, lo, fa, re, sz, dt⟩, va, vl, vc⟩ w1 (HS.out.kept HB1.out) HI1.out (HYV.out _ HB1.out)
  have h3 := fun W (hW : Below w1.heap.size w1 W) => renew_bad a0 n c0 l0 ⟨⟨id, lo, fa, re, sz, dt⟩, va, vl, vc⟩ W (HS.out.kept (bl2 HB1.out hW)) (HI1.out.kept hW) (HYV.out _ (bl2 HB1.out hW)) (by rw [hle]; exact HNE.out)
  have h4 := fun W (hW : Below w1.heap.size w1 W) => take_bad a0 n c0 l0 W (HS.out.kept (bl2 HB1.out hW)) (HI1.out.kept hW) (.inl (by rw [HF0.out]; exact HNE.out))
  have hte : takeE (l0.map (·.f)) = chkQ (l.map (·.f)) := by unfold takeE; rw [HF0.out, if_neg HNE.out]
  have h5 := fun W (hW : Below w1.heap.size w1 W) => sameFrs_true a0 n c0 l0 a cap l W (HI1.out.kept hW) (HF.out.kept (bl2 HB1.out hW)) HF0.out
  rw [hpe] at h2
  rw [hle] at h3
  rw [hte] at h4
  unfold frameV at h2 h3
  simp only at h2 h3
  generalize chkQ (l.map (·.f)) = ce at *
  have H2 := Hid.mk h2
  have H3 := Hid.mk h3
  have H4 := Hid.mk h4
  have H5 := Hid.mk h5
  clear hle hpe hte h2 h3 h4 h5 hq
  go_wp2_with fail
  refine H2.out.mono ?_
  rintro e w2 ⟨r1, l1, rfl, -, -, hnil, hb2⟩
  obtain ⟨rfl, -⟩ := hnil HNE.out
  have HB2 := Hid.mk (bl2 HB1.out hb2)
  have HK2 := Hid.mk (HK1.out.kept hb2)
  have HI2 := Hid.mk (HI1.out.kept hb2)
  have HW2 := Hid.mk hb2
  clear hb2 hnil
  clear k0 k1 k2 k3 k4 k5
  obtain ⟨k0, k1, k2, k3, k4, k5⟩ := HK2.out
  go_wp2_with fail
  refine (H3.out _ HW2.out).mono ?_
  rintro e w3 ⟨rfl, hb3⟩
  have HB3 := Hid.mk (bl2 HB2.out hb3)
  have HK3 := Hid.mk (HK2.out.kept hb3)
  have HI3 := Hid.mk (HI2.out.kept hb3)
  have HW3 := Hid.mk (bl2 HW2.out hb3)
  clear hb3
  clear k0 k1 k2 k3 k4 k5
  go_wp2_with fail
  refine (H4.out _ HW3.out).mono ?_
  rintro e w4 ⟨rfl, hb4⟩
  have hb4' := bl2 hb4 (below_box w4 0 false false false 0 none 0 0)
  have hz4 := FrAt.box w4 0 false false false 0 none 0 0
  have HB4 := Hid.mk (bl2 HB3.out hb4')
  have HK4 := Hid.mk (HK3.out.kept hb4')
  have HI4 := Hid.mk (HI3.out.kept hb4')
  have HW4 := Hid.mk (bl2 HW3.out hb4')
  have HZ4 := Hid.mk hz4
  unfold frameC at HB4 HK4 HI4 HW4 HZ4
  clear hb4 hb4' hz4
  simp only [FrV.cells, zV]
  go_wp2_with fail
  refine (HCQ.out _ HB4.out).mono ?_
  rintro e w5 ⟨rfl, hb5⟩
  have HB5 := Hid.mk (bl2 HB4.out hb5)
  have HK5 := Hid.mk (HK4.out.kept hb5)
  have HI5 := Hid.mk (HI4.out.kept hb5)
  have HZ5 := Hid.mk (HZ4.out.kept hb5)
  have HW5 := Hid.mk (bl2 HW4.out hb5)
  clear hb5
  go_wp2_with fail
  refine (HQ.out _ HB5.out).mono ?_
  rintro e w6 ⟨rfl, hb6⟩
  have HB6 := Hid.mk (bl2 HB5.out hb6)
  have HK6 := Hid.mk (HK5.out.kept hb6)
  have HI6 := Hid.mk (HI5.out.kept hb6)
  have HZ6 := Hid.mk (HZ5.out.kept hb6)
  have HW6 := Hid.mk (bl2 HW5.out hb6)
  clear hb6
  go_wp2_with fail
  refine (HQC.out _ HB6.out).mono ?_
  rintro e w7 ⟨rfl, hb7⟩
  have HB7 := Hid.mk (bl2 HB6.out hb7)
  have HK7 := Hid.mk (HK6.out.kept hb7)
  have HI7 := Hid.mk (HI6.out.kept hb7)
  have HZ7 := Hid.mk (HZ6.out.kept hb7)
  have HW7 := Hid.mk (bl2 HW6.out hb7)
  clear hb7
  go_wp2_with fail
  refine (H5.out _ HW7.out).mono ?_
  rintro e w8 ⟨rfl, hb8⟩
  have HB8 := Hid.mk (bl2 HB7.out hb8)
  have HK8 := Hid.mk (HK7.out.kept hb8)
  have HI8 := Hid.mk (HI7.out.kept hb8)
  have HZ8 := Hid.mk (HZ7.out.kept hb8)
  clear hb8
  obtain ⟨z0, z1, z2, z3, z4, z5⟩ := HZ8.out
  go_wp2_with fail
  refine (noFrameN _).mono ?_
  rintro e w9 ⟨rfl, hb9⟩
  have HB9 := Hid.mk (bl2 HB8.out hb9)
  clear hb9 z0 z1 z2 z3 z4 z5
  go_wp2_with fail
  go_ret
  exact ⟨rfl, HB9.out⟩
end Bw
end Go.Proofs.YthdffdobkampaaaDoor

/- What QueuePut's walk wants besides: Renew's answer as one, a frame stored into a row of one's own. -/
namespace Go.Proofs.YthdffdobkampaaaDoor
open Go.ChangeShapes Go.WideShapes Go.ChangeAt Go.RowKit
namespace Bw
open Bm Cm
/-- the first of its name stands at i -/
def FirstAt (l : List FrV) (v : FrV) (i : Nat) : Prop := ∃ hi : i < l.length, nameL l[i].f = nameL v.f ∧ ∀ j (hj : j < l.length), j < i → nameL l[j].f ≠ nameL v.f
structure RenU (l : List FrV) (v : FrV) (ge : Int) (r : Value) (l' : List FrV) : Prop where
  hit : ∀ i, FirstAt l v i → ge = 0 ∧ l'.map (·.f) = (l.map (·.f)).set i v.f
  miss : (∀ j (hj : j < l.length), nameL l[j].f ≠ nameL v.f) → ge = putE l v.f ∧ (putE l v.f = 0 → l'.map (·.f) = putF (l.map (·.f)) v.f) ∧ (putE l v.f ≠ 0 → r = .slice none 0 0 ∧ l' = [])
theorem renew_uni (a : Option Addr) (n cap : Nat) (l : List FrV) (v : FrV) (w : World) (hS : SizesAt w) (hF : IsFrames w a n cap l) (hY : IsBytes w v.a v.len v.cap v.f.dt) (hq : leE l v.f = 0) :
    Calls Tryd.prog 9 #[.slice a n cap, frameV v.f.id v.f.lo v.f.fa v.f.re v.f.sz v.a v.len v.cap] w fun e w' => ∃ r l' ge, e = .returned (.tuple #[r, .int .i64 ge]) ∧ OwnFrs w' w.heap.size r l' ∧ RenU l v ge r l' ∧ Below w.heap.size w w' := by
  refine (renew_ok a n cap l v w hS hF hY hq).mono ?_
  intro e w' h
  rcases h with ⟨i, hi, hn, hmin, r, l', rfl, ho, hf, hb⟩ | ⟨hno, r, l', rfl, ho, h0, h1, hb⟩
  · refine ⟨r, l', 0, rfl, ho, ⟨?_, fun hm => absurd hn (hm i hi)⟩, hb⟩
    rintro i' ⟨hi', hn', hmin'⟩
    have e : i' = i := by
      rcases Nat.lt_trichotomy i' i with h | h | h
      · exact absurd hn' (hmin i' hi' h)
      · exact h
      · exact absurd hn (hmin' i hi h)
    subst e
    exact ⟨rfl, hf⟩
  · refine ⟨r, l', _, rfl, ho, ⟨?_, fun _ => ⟨rfl, h0, h1⟩⟩, hb⟩
    rintro i' ⟨hi', hn', _⟩
    exact absurd hn' (hno i' hi')
theorem f_at {l l0 : List FrV} (h : l0.map (·.f) = l.map (·.f)) (j : Nat) (h0 : j < l0.length) (h1 : j < l.length) : l0[j].f = l[j].f := by
  have e1 : (l0.map (·.f))[j]? = some l0[j].f := by rw [List.getElem?_map, List.getElem?_eq_getElem h0]; rfl
  have e2 : (l.map (·.f))[j]? = some l[j].f := by rw [List.getElem?_map, List.getElem?_eq_getElem h1]; rfl
  rw [h, e2] at e1
  exact (Option.some.inj e1).symm
theorem firstAt_of {l l0 : List FrV} {v : FrV} {k : Nat} (h : l0.map (·.f) = l.map (·.f)) (hf : FirstAt l v k) : FirstAt l0 v k := by
  have hl : l0.length = l.length := by have := congrArg List.length h; simpa using this
  obtain ⟨hi, h1, h2⟩ := hf
  refine ⟨by omega, ?_, fun j hj hjk => ?_⟩
  · rw [f_at h k (by omega) hi]; exact h1
  · rw [f_at h j hj (by omega)]; exact h2 j (by omega) hjk
theorem miss_of {l l0 : List FrV} {v : FrV} (h : l0.map (·.f) = l.map (·.f)) (hm : ∀ j (hj : j < l.length), nameL l[j].f ≠ nameL v.f) : ∀ j (hj : j < l0.length), nameL l0[j].f ≠ nameL v.f := by
  have hl : l0.length = l.length := by have := congrArg List.length h; simpa using this
  intro j hj
  rw [f_at h j hj (by omega)]
  exact hm j (by omega)
theorem frC_set (l : List FrV) (k : Nat) (v : FrV) (h : k < l.length) : frC (l.set k v) = frC (l.take k) ++ (v.cells ++ frC (l.drop (k + 1))) := by
  rw [List.set_eq_take_append_cons_drop, if_pos h, frC_app]; rfl
/-- a frame is stored into a row of one's own -/
theorem wpl_store_row {ops : Array Oper} {rest : List Oper} {dst : Option Tmp} {ty : TypeId} {pos : String} {aft : Array Edge} {a : Act} {w : World} {Q : Exit → Act → World → Prop} (x y : Operand) (base g o n c k : Nat) (l : List FrV) (v : FrV) (hx : a.eval x = .pointer (some ⟨g, o, none⟩)) (hy : a.eval y = .agg v.cells.toArray) (hO : w.ownsRow base 25 6 (.slice (some ⟨g, 0, none⟩) n c) n (frC l)) (hl : l.length = n) (ho : o = k * 6) (hk : k < n)
    (h : ∀ w', w'.ownsRow base 25 6 (.slice (some ⟨g, 0, none⟩) n c) n (frC (l.set k v)) → Tch [g] w w' → wpList Tryd.prog ops Q rest (a.put dst undef) w') :
    wpList Tryd.prog ops Q (Oper.mk dst (.store 25 x y) ty pos aft none :: rest) a w := by
  subst ho
  rcases hO.2 with ⟨h1, h2⟩ | ⟨g', cap, cur, h1, hbg, hg, hc, hm, hsz, htk⟩
  · cases h1
  · injection h1 with e1 e2 e3
    injection e1 with e1
    injection e1 with e1
    subst e1
    subst e3
    have hset := set_row (o := k * 6) hg (by rw [hsz]; show k * 6 + 6 ≤ _; omega) (frv_oneI v)
    refine wpList_store_mid rfl 25 x y rfl g (k * 6) v.cells.toArray hx hy (fun j hj => ⟨?_, frozen_of_row w g _ _ _ hg⟩) fr_info (all_oneCell_toArray (frv_oneI v)) ?_
    · have hj' : j < 6 := hj
      rw [cell_of_row w g _ _ _ _ hg, Array.getElem?_eq_getElem (by rw [hsz]; omega)]; rfl
    · show wpList _ _ _ _ _ (w.setCells g (k * 6) v.cells)
      rw [hset]
      refine h _ ⟨by rw [frC_length, List.length_set, hl], .inr ⟨g, c, _, rfl, hbg, setRow_heap w g _ _ _ _ hg, hc, hm, ?_, ?_⟩⟩ (tch_row _)
      · rw [List.size_toArray]
        simp only [List.length_append, List.length_take, List.length_drop, Array.length_toList, hsz]
        show _ + 6 + (_ - (_ + 6)) = _
        omega
      · have h6 : v.cells.length = 6 := rfl
        have e1 : cur.toList.take (k * 6) = frC (l.take k) := by
          have : cur.toList.take (k * 6) = (frC l).take (k * 6) := by rw [← htk, List.take_take, Nat.min_eq_left (by omega)]
          rw [this, frC_td l k]
          exact List.take_left' (by rw [frC_length, List.length_take]; omega)
        have e2 : (cur.toList.drop (k * 6 + 6)).take ((n - (k + 1)) * 6) = frC (l.drop (k + 1)) := by
          have h7 : (cur.toList.take (n * 6)).drop (k * 6 + 6) = (frC l).drop (k * 6 + 6) := by rw [htk]
          rw [List.drop_take, show n * 6 - (k * 6 + 6) = (n - (k + 1)) * 6 by omega] at h7
          rw [h7, frC_td l (k + 1)]
          exact List.drop_left' (by rw [frC_length, List.length_take]; omega)
        rw [List.toList_toArray, h6, frC_set l k v (by omega), List.append_assoc, List.take_append, e1]
        have htl : (frC (l.take k)).length = k * 6 := by rw [frC_length, List.length_take]; omega
        rw [List.take_of_length_le (l := frC (l.take k)) (by rw [htl]; omega), htl, List.take_append, h6, List.take_of_length_le (l := v.cells) (by rw [h6]; omega), show n * 6 - k * 6 - 6 = (n - (k + 1)) * 6 by omega, e2]
end Bw
end Go.Proofs.YthdffdobkampaaaDoor

/- QueuePut's walk: an empty queue, a wrong frame. -/
namespace Go.Proofs.YthdffdobkampaaaDoor
open Go.ChangeShapes Go.WideShapes Go.ChangeAt Go.RowKit
namespace Bw
open Bm Cm
set_option maxHeartbeats 4000000 in
set_option maxRecDepth 100000 in
theorem put_zbad (hCF : CheckF) (a : Option Addr) (n cap : Nat) (l : List FrV) (v : FrV) (w : World) (hS : SizesAt w) (hD : w.cell? ⟨4, 1, none⟩ = some (.int .u8 1)) (hF : IsFrames w a n cap l) (hY : IsBytes w v.a v.len v.cap v.f.dt) (hn : n * 48 ≤ 140737488351232) (hd : ∀ u ∈ l, u.len ≤ 140737488351232) (hc : chkQ (l.map (·.f)) = 0) (hE : frE v.f ≠ 0) (hn0 : n = 0) :
    Calls Tryd.prog 3 #[.slice a n cap, frameV v.f.id v.f.lo v.f.fa v.f.re v.f.sz v.a v.len v.cap] w fun e w' => e = .returned (.bool true) ∧ Below w.heap.size w w' := by
  obtain ⟨⟨id, lo, fa, re, sz, dt⟩, va, vl, vc⟩ := v
  simp only at hY ⊢
  have hb0 := below_box w id lo fa re sz va vl vc
  have HOW := Hid.mk (ownFrames_any a n cap l _ (hF.kept hb0) hn hd)
  have HK0 := Hid.mk (FrAt.box w id lo fa re sz va vl vc)
  have HBB := Hid.mk hb0
  have HF := Hid.mk hF
  have HYV := Hid.mk (show ∀ W, Below w.heap.size w W → IsBytes W va vl vc dt from fun W hb => isBytes_below hY hb)
  have HCQ := Hid.mk (fun W (hW : Below w.heap.size w W) => checkQueue_any hCF a n cap l W (cell_kept hW hD) (hF.kept hW))
  have HQC := Hid.mk (fun W (hW : Below w.heap.size w W) => check_qany a n cap l W (hS.kept hW) (hF.kept hW))
  have HQ := Hid.mk (fun W (hW : Below w.heap.size w W) => queued_any W (hS.kept hW))
  have HS := Hid.mk hS
  have HD := Hid.mk hD
  have HCF := Hid.mk hCF
  have HLEN := Hid.mk hF.len
  unfold frameV
  unfold frameC at HOW HK0 HBB
  clear hb0 hF hY hn hd hS hD hCF
  have HC := Hid.mk hc
  have HE := Hid.mk (show frE ⟨id, lo, fa, re, sz, dt⟩ ≠ 0 from hE)
  have hl16 : l.length ≤ 16 := by obtain ⟨q, _⟩ := chk_ok hc; rw [List.length_map] at q; exact q
  have hn16 : n ≤ 16 := by rw [← HLEN.out]; exact hl16
  have HALL := Hid.mk (show ∀ u ∈ l, frE u.f = 0 from fun u hu => (chk_ok hc).2.1 _ (List.mem_map_of_mem hu))
  clear hc hE hl16
  subst hn0
  go_enter Tryd.func3, Tryd.ntmps3
  go_wp2_with fail
  refine HOW.out.mono ?_
  rintro e w1 ⟨r0, l0, rfl, hl0, hf0, ho0, hb1⟩
  obtain ⟨a0, c0, rfl, hI0⟩ := ho0.frames
  rw [hl0] at hI0 ⊢
  have HB1 := Hid.mk (bl2 HBB.out hb1)
  have HK1 := Hid.mk (HK0.out.kept hb1)
  have HI1 := Hid.mk hI0
  have HF0 := Hid.mk hf0
  obtain ⟨k0, k1, k2, k3, k4, k5⟩ := HK1.out
  clear hb1 ho0 hI0 hl0 HOW HBB HK0
  have hleq : ∀ g, leE l0 g = leE l g := fun g => by unfold leE; rw [HF0.out]
  have hl0n : l0.length = l.length := by have := congrArg List.length HF0.out; simpa using this
  have hpeq : ∀ g, putE l0 g = putE l g := fun g => by unfold putE; rw [hleq, hl0n]
  have HLQ := Hid.mk hleq
  have HPQ := Hid.mk hpeq
  have HL0 := Hid.mk hl0n
  clear hleq hl0n hpeq
  have hle : leE l0 ⟨id, lo, fa, re, sz, dt⟩ = frE ⟨id, lo, fa, re, sz, dt⟩ := by rw [HLQ.out]; unfold leE; rw [if_pos HC.out]
  have h2 := Put_any a0 0 c0 l0 ⟨⟨id, lo, fa, re, sz, dt⟩, va, vl, vc⟩ w1 (HS.out.kept HB1.out) HI1.out (HYV.out _ HB1.out)
  have h3 := fun W (hW : Below w1.heap.size w1 W) => renew_bad a0 0 c0 l0 ⟨⟨id, lo, fa, re, sz, dt⟩, va, vl, vc⟩ W (HS.out.kept (bl2 HB1.out hW)) (HI1.out.kept hW) (HYV.out _ (bl2 HB1.out hW)) (by rw [hle]; exact HE.out)
  have hpe : putE l0 ⟨id, lo, fa, re, sz, dt⟩ = frE ⟨id, lo, fa, re, sz, dt⟩ := by unfold putE; rw [hle, if_neg HE.out]
  rw [hpe] at h2
  rw [hle] at h3
  clear hpe
  have h4 := fun W (hW : Below w1.heap.size w1 W) => take_bad a0 0 c0 l0 W (HS.out.kept (bl2 HB1.out hW)) (HI1.out.kept hW) (.inr rfl)
  have hte : takeE (l0.map (·.f)) = 8 := by unfold takeE; rw [HF0.out, if_pos HC.out, if_pos (by rw [List.length_map, HLEN.out])]
  rw [hte] at h4
  clear hte
  have h5 := fun W (hW : Below w1.heap.size w1 W) => sameFrs_true a0 0 c0 l0 a cap l W (HI1.out.kept hW) (HF.out.kept (bl2 HB1.out hW)) HF0.out
  have HCK := Hid.mk (fun W (hW : Below w.heap.size w W) => HCF.out.fr ⟨id, lo, fa, re, sz, dt⟩ va vl vc W (HYV.out _ hW))
  rw [HC.out] at HCQ HQC
  unfold frameV at h2 h3 HCK
  simp only at h2 h3 HCK
  have HNE := Hid.mk HE.out
  have hne : (frE ⟨id, lo, fa, re, sz, dt⟩ != 0) = true := by simpa using HE.out
  clear hle HE
  generalize frE ⟨id, lo, fa, re, sz, dt⟩ = ce at *
  have H2 := Hid.mk h2
  have H3 := Hid.mk h3
  have H4 := Hid.mk h4
  have H5 := Hid.mk h5
  clear h2 h3 h4 h5
  go_wp2_with fail
  refine H2.out.mono ?_
  rintro e w2 ⟨r1, l1, rfl, -, -, hnil, hb2⟩
  obtain ⟨rfl, -⟩ := hnil HNE.out
  have HB2 := Hid.mk (bl2 HB1.out hb2)
  have HK2 := Hid.mk (HK1.out.kept hb2)
  have HI2 := Hid.mk (HI1.out.kept hb2)
  have HW2 := Hid.mk hb2
  clear hb2 hnil
  clear k0 k1 k2 k3 k4 k5
  obtain ⟨k0, k1, k2, k3, k4, k5⟩ := HK2.out
  go_wp2_with fail
  refine (H3.out _ HW2.out).mono ?_
  rintro e w3 ⟨rfl, hb3⟩
  have HB3 := Hid.mk (bl2 HB2.out hb3)
  have HK3 := Hid.mk (HK2.out.kept hb3)
  have HI3 := Hid.mk (HI2.out.kept hb3)
  have HW3 := Hid.mk (bl2 HW2.out hb3)
  clear hb3
  clear k0 k1 k2 k3 k4 k5
  go_wp2_with fail
  refine (H4.out _ HW3.out).mono ?_
  rintro e w4 ⟨rfl, hb4⟩
  have hb4' := bl2 hb4 (below_box w4 0 false false false 0 none 0 0)
  have hz4 := FrAt.box w4 0 false false false 0 none 0 0
  have HB4 := Hid.mk (bl2 HB3.out hb4')
  have HK4 := Hid.mk (HK3.out.kept hb4')
  have HI4 := Hid.mk (HI3.out.kept hb4')
  have HW4 := Hid.mk (bl2 HW3.out hb4')
  have HZ4 := Hid.mk hz4
  unfold frameC at HB4 HK4 HI4 HW4 HZ4
  clear hb4 hb4' hz4
  simp only [FrV.cells, zV]
  go_wp2_with fail
  refine (HCQ.out _ HB4.out).mono ?_
  rintro e w5 ⟨rfl, hb5⟩
  have HB5 := Hid.mk (bl2 HB4.out hb5)
  have HK5 := Hid.mk (HK4.out.kept hb5)
  have HI5 := Hid.mk (HI4.out.kept hb5)
  have HZ5 := Hid.mk (HZ4.out.kept hb5)
  have HW5 := Hid.mk (bl2 HW4.out hb5)
  clear hb5
  go_wp2_with fail
  refine (HQ.out _ HB5.out).mono ?_
  rintro e w6 ⟨rfl, hb6⟩
  have HB6 := Hid.mk (bl2 HB5.out hb6)
  have HK6 := Hid.mk (HK5.out.kept hb6)
  have HI6 := Hid.mk (HI5.out.kept hb6)
  have HZ6 := Hid.mk (HZ5.out.kept hb6)
  have HW6 := Hid.mk (bl2 HW5.out hb6)
  clear hb6
  go_wp2_with fail
  refine (HQC.out _ HB6.out).mono ?_
  rintro e w7 ⟨rfl, hb7⟩
  have HB7 := Hid.mk (bl2 HB6.out hb7)
  have HK7 := Hid.mk (HK6.out.kept hb7)
  have HI7 := Hid.mk (HI6.out.kept hb7)
  have HZ7 := Hid.mk (HZ6.out.kept hb7)
  have HW7 := Hid.mk (bl2 HW6.out hb7)
  clear hb7
  go_wp2_with fail
  refine (H5.out _ HW7.out).mono ?_
  rintro e w8 ⟨rfl, hb8⟩
  have HB8 := Hid.mk (bl2 HB7.out hb8)
  have HK8 := Hid.mk (HK7.out.kept hb8)
  have HI8 := Hid.mk (HI7.out.kept hb8)
  have HZ8 := Hid.mk (HZ7.out.kept hb8)
  have HW8 := Hid.mk (bl2 HW7.out hb8)
  clear hb8
  obtain ⟨z0, z1, z2, z3, z4, z5⟩ := HZ8.out
  go_wp2_with fail
  refine (noFrameN _).mono ?_
  rintro e w9 ⟨rfl, hb9⟩
  have HB9 := Hid.mk (bl2 HB8.out hb9)
  have HK9 := Hid.mk (HK8.out.kept hb9)
  have HI9 := Hid.mk (HI8.out.kept hb9)
  clear hb9 z0 z1 z2 z3 z4 z5
  obtain ⟨k0, k1, k2, k3, k4, k5⟩ := HK9.out
  go_wp2_with fail
  refine (HCK.out _ HB9.out).mono ?_
  rintro e w10 ⟨rfl, hb10⟩
  have HB10 := Hid.mk (bl2 HB9.out hb10)
  clear hb10 k0 k1 k2 k3 k4 k5
  go_wp2_with fail
  go_ret
  exact ⟨rfl, HB10.out⟩
end Bw
end Go.Proofs.YthdffdobkampaaaDoor

/- QueuePut's walk: a queue, a wrong frame. -/
namespace Go.Proofs.YthdffdobkampaaaDoor
open Go.ChangeShapes Go.WideShapes Go.ChangeAt Go.RowKit
namespace Bw
open Bm Cm
set_option maxHeartbeats 4000000 in
set_option maxRecDepth 100000 in
theorem put_nbad (hCF : CheckF) (a : Option Addr) (n cap : Nat) (l : List FrV) (v : FrV) (w : World) (hS : SizesAt w) (hD : w.cell? ⟨4, 1, none⟩ = some (.int .u8 1)) (hF : IsFrames w a n cap l) (hY : IsBytes w v.a v.len v.cap v.f.dt) (hn : n * 48 ≤ 140737488351232) (hd : ∀ u ∈ l, u.len ≤ 140737488351232) (hc : chkQ (l.map (·.f)) = 0) (hE : frE v.f ≠ 0) (hn0 : 0 < n) :
    Calls Tryd.prog 3 #[.slice a n cap, frameV v.f.id v.f.lo v.f.fa v.f.re v.f.sz v.a v.len v.cap] w fun e w' => e = .returned (.bool true) ∧ Below w.heap.size w w' := by
  obtain ⟨⟨id, lo, fa, re, sz, dt⟩, va, vl, vc⟩ := v
  simp only at hY ⊢
  have hb0 := below_box w id lo fa re sz va vl vc
  have HOW := Hid.mk (ownFrames_any a n cap l _ (hF.kept hb0) hn hd)
  have HK0 := Hid.mk (FrAt.box w id lo fa re sz va vl vc)
  have HBB := Hid.mk hb0
  have HF := Hid.mk hF
  have HYV := Hid.mk (show ∀ W, Below w.heap.size w W → IsBytes W va vl vc dt from fun W hb => isBytes_below hY hb)
  have HCQ := Hid.mk (fun W (hW : Below w.heap.size w W) => checkQueue_any hCF a n cap l W (cell_kept hW hD) (hF.kept hW))
  have HQC := Hid.mk (fun W (hW : Below w.heap.size w W) => check_qany a n cap l W (hS.kept hW) (hF.kept hW))
  have HQ := Hid.mk (fun W (hW : Below w.heap.size w W) => queued_any W (hS.kept hW))
  have HS := Hid.mk hS
  have HD := Hid.mk hD
  have HCF := Hid.mk hCF
  have HLEN := Hid.mk hF.len
  unfold frameV
  unfold frameC at HOW HK0 HBB
  clear hb0 hF hY hn hd hS hD hCF
  have HC := Hid.mk hc
  have HE := Hid.mk (show frE ⟨id, lo, fa, re, sz, dt⟩ ≠ 0 from hE)
  have hl16 : l.length ≤ 16 := by obtain ⟨q, _⟩ := chk_ok hc; rw [List.length_map] at q; exact q
  have hn16 : n ≤ 16 := by rw [← HLEN.out]; exact hl16
  have HALL := Hid.mk (show ∀ u ∈ l, frE u.f = 0 from fun u hu => (chk_ok hc).2.1 _ (List.mem_map_of_mem hu))
  clear hc hE hl16
  go_enter Tryd.func3, Tryd.ntmps3
  go_wp2_with fail
  refine HOW.out.mono ?_
  rintro e w1 ⟨r0, l0, rfl, hl0, hf0, ho0, hb1⟩
  obtain ⟨a0, c0, rfl, hI0⟩ := ho0.frames
  rw [hl0] at hI0 ⊢
  have HB1 := Hid.mk (bl2 HBB.out hb1)
  have HK1 := Hid.mk (HK0.out.kept hb1)
  have HI1 := Hid.mk hI0
  have HF0 := Hid.mk hf0
  obtain ⟨k0, k1, k2, k3, k4, k5⟩ := HK1.out
  clear hb1 ho0 hI0 hl0 HOW HBB HK0
  have hleq : ∀ g, leE l0 g = leE l g := fun g => by unfold leE; rw [HF0.out]
  have hl0n : l0.length = l.length := by have := congrArg List.length HF0.out; simpa using this
  have hpeq : ∀ g, putE l0 g = putE l g := fun g => by unfold putE; rw [hleq, hl0n]
  have HLQ := Hid.mk hleq
  have HPQ := Hid.mk hpeq
  have HL0 := Hid.mk hl0n
  clear hleq hl0n hpeq
  have hle : leE l0 ⟨id, lo, fa, re, sz, dt⟩ = frE ⟨id, lo, fa, re, sz, dt⟩ := by rw [HLQ.out]; unfold leE; rw [if_pos HC.out]
  have h2 := Put_any a0 n c0 l0 ⟨⟨id, lo, fa, re, sz, dt⟩, va, vl, vc⟩ w1 (HS.out.kept HB1.out) HI1.out (HYV.out _ HB1.out)
  have h3 := fun W (hW : Below w1.heap.size w1 W) => renew_bad a0 n c0 l0 ⟨⟨id, lo, fa, re, sz, dt⟩, va, vl, vc⟩ W (HS.out.kept (bl2 HB1.out hW)) (HI1.out.kept hW) (HYV.out _ (bl2 HB1.out hW)) (by rw [hle]; exact HE.out)
  have hpe : putE l0 ⟨id, lo, fa, re, sz, dt⟩ = frE ⟨id, lo, fa, re, sz, dt⟩ := by unfold putE; rw [hle, if_neg HE.out]
  rw [hpe] at h2
  rw [hle] at h3
  clear hpe
  have h4 := fun W (hW : Below w1.heap.size w1 W) => take_ok a0 n c0 l0 W (HS.out.kept (bl2 HB1.out hW)) (HI1.out.kept hW) (by rw [HF0.out]; exact HC.out) hn0
  have h5 := fun W (hW : Below w1.heap.size w1 W) => sameFrs_true a0 n c0 l0 a cap l W (HI1.out.kept hW) (HF.out.kept (bl2 HB1.out hW)) HF0.out
  have HCK := Hid.mk (fun W (hW : Below w.heap.size w W) => HCF.out.fr ⟨id, lo, fa, re, sz, dt⟩ va vl vc W (HYV.out _ hW))
  rw [HC.out] at HCQ HQC
  unfold frameV at h2 h3 HCK
  simp only at h2 h3 HCK
  have HNE := Hid.mk HE.out
  have hne : (frE ⟨id, lo, fa, re, sz, dt⟩ != 0) = true := by simpa using HE.out
  clear hle HE
  generalize frE ⟨id, lo, fa, re, sz, dt⟩ = ce at *
  have H2 := Hid.mk h2
  have H3 := Hid.mk h3
  have H4 := Hid.mk h4
  have H5 := Hid.mk h5
  clear h2 h3 h4 h5
  go_wp2_with fail
  refine H2.out.mono ?_
  rintro e w2 ⟨r1, l1, rfl, -, -, hnil, hb2⟩
  obtain ⟨rfl, -⟩ := hnil HNE.out
  have HB2 := Hid.mk (bl2 HB1.out hb2)
  have HK2 := Hid.mk (HK1.out.kept hb2)
  have HI2 := Hid.mk (HI1.out.kept hb2)
  have HW2 := Hid.mk hb2
  clear hb2 hnil
  clear k0 k1 k2 k3 k4 k5
  obtain ⟨k0, k1, k2, k3, k4, k5⟩ := HK2.out
  go_wp2_with fail
  refine (H3.out _ HW2.out).mono ?_
  rintro e w3 ⟨rfl, hb3⟩
  have HB3 := Hid.mk (bl2 HB2.out hb3)
  have HK3 := Hid.mk (HK2.out.kept hb3)
  have HI3 := Hid.mk (HI2.out.kept hb3)
  have HW3 := Hid.mk (bl2 HW2.out hb3)
  clear hb3
  clear k0 k1 k2 k3 k4 k5
  go_wp2_with fail
  refine (H4.out _ HW3.out).mono ?_
  rintro e w4 ⟨u, xt, ct, lt, rfl, hft, hYt, hFt, hb4⟩
  obtain ⟨⟨ti, tl, tf, tr, ts, td⟩, ta, tn, tc⟩ := u
  simp only at hft hYt
  have hbz := below_box w4 ti tl tf tr ts ta tn tc
  have hb4' := bl2 hb4 hbz
  have HZ4 := Hid.mk (FrAt.box w4 ti tl tf tr ts ta tn tc)
  have HB4 := Hid.mk (bl2 HB3.out hb4')
  have HK4 := Hid.mk (HK3.out.kept hb4')
  have HI4 := Hid.mk (HI3.out.kept hb4')
  have HW4 := Hid.mk (bl2 HW3.out hb4')
  have HYT4 := Hid.mk (isBytes_below hYt hbz)
  have HT4 := Hid.mk (hFt.kept hbz)
  have HFT := Hid.mk hft
  unfold frameC at HB4 HK4 HI4 HW4 HZ4 HYT4 HT4
  clear hb4 hb4' hbz hft hYt hFt
  simp only [FrV.cells]
  go_wp2_with fail
  refine (HCQ.out _ HB4.out).mono ?_
  rintro e w5 ⟨rfl, hb5⟩
  have HB5 := Hid.mk (bl2 HB4.out hb5)
  have HK5 := Hid.mk (HK4.out.kept hb5)
  have HI5 := Hid.mk (HI4.out.kept hb5)
  have HZ5 := Hid.mk (HZ4.out.kept hb5)
  have HT5 := Hid.mk (HT4.out.kept hb5)
  have HW5 := Hid.mk (bl2 HW4.out hb5)
  have HYT5 := Hid.mk (isBytes_below HYT4.out hb5)
  clear hb5
  go_wp2_with fail
  refine (HQ.out _ HB5.out).mono ?_
  rintro e w6 ⟨rfl, hb6⟩
  have HB6 := Hid.mk (bl2 HB5.out hb6)
  have HK6 := Hid.mk (HK5.out.kept hb6)
  have HI6 := Hid.mk (HI5.out.kept hb6)
  have HZ6 := Hid.mk (HZ5.out.kept hb6)
  have HT6 := Hid.mk (HT5.out.kept hb6)
  have HW6 := Hid.mk (bl2 HW5.out hb6)
  have HYT6 := Hid.mk (isBytes_below HYT5.out hb6)
  clear hb6
  go_wp2_with fail
  refine (HQC.out _ HB6.out).mono ?_
  rintro e w7 ⟨rfl, hb7⟩
  have HB7 := Hid.mk (bl2 HB6.out hb7)
  have HK7 := Hid.mk (HK6.out.kept hb7)
  have HI7 := Hid.mk (HI6.out.kept hb7)
  have HZ7 := Hid.mk (HZ6.out.kept hb7)
  have HT7 := Hid.mk (HT6.out.kept hb7)
  have HW7 := Hid.mk (bl2 HW6.out hb7)
  have HYT7 := Hid.mk (isBytes_below HYT6.out hb7)
  clear hb7
  go_wp2_with fail
  refine (H5.out _ HW7.out).mono ?_
  rintro e w8 ⟨rfl, hb8⟩
  have HB8 := Hid.mk (bl2 HB7.out hb8)
  have HK8 := Hid.mk (HK7.out.kept hb8)
  have HI8 := Hid.mk (HI7.out.kept hb8)
  have HZ8 := Hid.mk (HZ7.out.kept hb8)
  have HT8 := Hid.mk (HT7.out.kept hb8)
  have HW8 := Hid.mk (bl2 HW7.out hb8)
  have HYT8 := Hid.mk (isBytes_below HYT7.out hb8)
  clear hb8
  cases a with
  | none => exact absurd (HF.out.none rfl) (by omega)
  | some y =>
    have hk0 : 0 < l.length := by rw [HLEN.out]; exact hn0
    have qq := fun (j : Nat) (hj : j < 6) => cell_kept HB8.out (HF.out.cell y rfl 0 hk0 j hj)
    have hbq := isBytes_below (HF.out.bytes 0 hk0) (show Below w.heap.size w w8 from HB8.out)
    have hfl : ⟨ti, tl, tf, tr, ts, td⟩ :: lt.map (·.f) = l.map (·.f) := HFT.out.trans HF0.out
    have hlc : l = l[0] :: l.drop 1 := by
      cases l with
      | nil => exact absurd hk0 (Nat.not_lt_zero _)
      | cons u l => rfl
    have hf0 : l[0].f = ⟨ti, tl, tf, tr, ts, td⟩ := by
      rw [hlc, List.map_cons] at hfl
      injection hfl with h1 h2
      exact h1.symm
    have hft1 : lt.map (·.f) = (l.drop 1).map (·.f) := by
      rw [hlc, List.map_cons] at hfl
      injection hfl with h1 h2
    have hFd := frames_drop (HF.out.kept HB8.out) 1 (by omega)
    have hsl := fun W => slice_fr y n cap 1 (by omega) W
    rw [show ((1 : Nat) : Int) = 1 from rfl] at hsl
    generalize (if cap = 1 then y else y.add (1 * 6)) = y2 at *
    have ey : y.add (0 * 6 + 0) = y := by unfold Addr.add; simp
    have eyj : ∀ j, y.add (0 * 6 + (j + 1)) = ⟨y.block, y.off + (j + 1), none⟩ := fun j => by unfold Addr.add; simp
    generalize l[0] = u at *
    obtain ⟨f', ua, ul, uc⟩ := u
    simp only at hf0 hbq
    subst hf0
    have q0 := qq 0 (by omega)
    have q1 := qq 1 (by omega)
    have q2 := qq 2 (by omega)
    have q3 := qq 3 (by omega)
    have q4 := qq 4 (by omega)
    have q5 := qq 5 (by omega)
    rw [ey] at q0
    rw [eyj] at q1 q2 q3 q4 q5
    simp only [FrV.cells, List.getElem_cons_zero, List.getElem_cons_succ, Nat.reduceAdd] at q0 q1 q2 q3 q4 q5
    have rf0 := fun d os => (HZ8.out.regrownQ d os).c0
    have rf1 := fun d os => (HZ8.out.regrownQ d os).c1
    have rf2 := fun d os => (HZ8.out.regrownQ d os).c2
    have rf3 := fun d os => (HZ8.out.regrownQ d os).c3
    have rf4 := fun d os => (HZ8.out.regrownQ d os).c4
    have rf5 := fun d os => (HZ8.out.regrownQ d os).c5
    have rg0 := fun d os => cell_reg q0 d os
    have rg1 := fun d os => cell_reg q1 d os
    have rg2 := fun d os => cell_reg q2 d os
    have rg3 := fun d os => cell_reg q3 d os
    have rg4 := fun d os => cell_reg q4 d os
    have rg5 := fun d os => cell_reg q5 d os
    have HSM := Hid.mk (fun d os => sameFrame_true ⟨ti, tl, tf, tr, ts, td⟩ ta ua tn tc ul uc (Go.Sort.grow (redrawn w8 d) os) (isBytes_below HYT8.out (below_regrown w8 d os)) (isBytes_below hbq (below_regrown w8 d os)))
    have HSF := Hid.mk (fun d os => sameFrs_true (some xt) (n - 1) ct lt (some y2) (cap - 1) (l.drop 1) (Go.Sort.grow (redrawn w8 d) os) (HT8.out.kept (below_regrown w8 d os)) (hFd.kept (below_regrown w8 d os)) hft1)
    unfold frameV at HSM
    simp only at HSM
    have hn1' : (1 : Int) ≤ (n : Int) := by omega
    have hn0' : (0 : Int) < (n : Int) := by omega
    have hnb : ((n : Int) == 0) = false := by simp; omega
    clear qq hbq hfl hlc hft1 hFd ey eyj q0 q1 q2 q3 q4 q5
    go_wp2_with fail
    refine wp_region_quiet_below (by kernel_rfl) (by kernel_rfl) ?_
    repeat (go_big_quiet_step (first
      | (go_at_call 16; with_reducible_and_instances exact Calls.regrown_of (HSM.out _ _))
      | (go_at_call 14; with_reducible_and_instances exact Calls.regrown_of (HSF.out _ _))))
    refine wpQuiet_nil ?_
    intro _ hw'
    obtain ⟨⟨dq, osq⟩, hw''⟩ := hw'
    have hb9 := below_regrown w8 dq osq
    rw [hw'']
    generalize Go.Sort.grow (redrawn w8 dq) osq = w9 at *
    have HB9 := Hid.mk (bl2 HB8.out hb9)
    have HK9 := Hid.mk (HK8.out.kept hb9)
    have HI9 := Hid.mk (HI8.out.kept hb9)
    clear hw'' hb9 rf0 rf1 rf2 rf3 rf4 rf5 rg0 rg1 rg2 rg3 rg4 rg5 HSM HSF hsl
    obtain ⟨k0, k1, k2, k3, k4, k5⟩ := HK9.out
    go_wp2_with fail
    refine (HCK.out _ HB9.out).mono ?_
    rintro e w10 ⟨rfl, hb10⟩
    have HB10 := Hid.mk (bl2 HB9.out hb10)
    clear hb10 k0 k1 k2 k3 k4 k5
    go_wp2_with fail
    go_ret
    exact ⟨rfl, HB10.out⟩
end Bw
end Go.Proofs.YthdffdobkampaaaDoor

/- QueuePut's walk: an empty queue, a right frame. -/
namespace Go.Proofs.YthdffdobkampaaaDoor
open Go.ChangeShapes Go.WideShapes Go.ChangeAt Go.RowKit
namespace Bw
open Bm Cm
set_option maxHeartbeats 4000000 in
set_option maxRecDepth 100000 in
theorem put_zok (hCF : CheckF) (a : Option Addr) (n cap : Nat) (l : List FrV) (v : FrV) (w : World) (hS : SizesAt w) (hD : w.cell? ⟨4, 1, none⟩ = some (.int .u8 1)) (hF : IsFrames w a n cap l) (hY : IsBytes w v.a v.len v.cap v.f.dt) (hn : n * 48 ≤ 140737488351232) (hd : ∀ u ∈ l, u.len ≤ 140737488351232) (hc : chkQ (l.map (·.f)) = 0) (hE : frE v.f = 0) (hn0 : n = 0) :
    Calls Tryd.prog 3 #[.slice a n cap, frameV v.f.id v.f.lo v.f.fa v.f.re v.f.sz v.a v.len v.cap] w fun e w' => e = .returned (.bool true) ∧ Below w.heap.size w w' := by
  obtain ⟨⟨id, lo, fa, re, sz, dt⟩, va, vl, vc⟩ := v
  simp only at hY ⊢
  have hb0 := below_box w id lo fa re sz va vl vc
  have HOW := Hid.mk (ownFrames_any a n cap l _ (hF.kept hb0) hn hd)
  have HK0 := Hid.mk (FrAt.box w id lo fa re sz va vl vc)
  have HBB := Hid.mk hb0
  have HF := Hid.mk hF
  have HYV := Hid.mk (show ∀ W, Below w.heap.size w W → IsBytes W va vl vc dt from fun W hb => isBytes_below hY hb)
  have HCQ := Hid.mk (fun W (hW : Below w.heap.size w W) => checkQueue_any hCF a n cap l W (cell_kept hW hD) (hF.kept hW))
  have HQC := Hid.mk (fun W (hW : Below w.heap.size w W) => check_qany a n cap l W (hS.kept hW) (hF.kept hW))
  have HQ := Hid.mk (fun W (hW : Below w.heap.size w W) => queued_any W (hS.kept hW))
  have HS := Hid.mk hS
  have HD := Hid.mk hD
  have HCF := Hid.mk hCF
  have HLEN := Hid.mk hF.len
  unfold frameV
  unfold frameC at HOW HK0 HBB
  clear hb0 hF hY hn hd hS hD hCF
  have HC := Hid.mk hc
  have HE := Hid.mk (show frE ⟨id, lo, fa, re, sz, dt⟩ = 0 from hE)
  have hl16 : l.length ≤ 16 := by obtain ⟨q, _⟩ := chk_ok hc; rw [List.length_map] at q; exact q
  have hn16 : n ≤ 16 := by rw [← HLEN.out]; exact hl16
  have HALL := Hid.mk (show ∀ u ∈ l, frE u.f = 0 from fun u hu => (chk_ok hc).2.1 _ (List.mem_map_of_mem hu))
  clear hc hE hl16
  subst hn0
  go_enter Tryd.func3, Tryd.ntmps3
  go_wp2_with fail
  refine HOW.out.mono ?_
  rintro e w1 ⟨r0, l0, rfl, hl0, hf0, ho0, hb1⟩
  obtain ⟨a0, c0, rfl, hI0⟩ := ho0.frames
  rw [hl0] at hI0 ⊢
  have HB1 := Hid.mk (bl2 HBB.out hb1)
  have HK1 := Hid.mk (HK0.out.kept hb1)
  have HI1 := Hid.mk hI0
  have HF0 := Hid.mk hf0
  obtain ⟨k0, k1, k2, k3, k4, k5⟩ := HK1.out
  clear hb1 ho0 hI0 hl0 HOW HBB HK0
  have hleq : ∀ g, leE l0 g = leE l g := fun g => by unfold leE; rw [HF0.out]
  have hl0n : l0.length = l.length := by have := congrArg List.length HF0.out; simpa using this
  have hpeq : ∀ g, putE l0 g = putE l g := fun g => by unfold putE; rw [hleq, hl0n]
  have HLQ := Hid.mk hleq
  have HPQ := Hid.mk hpeq
  have HL0 := Hid.mk hl0n
  clear hleq hl0n hpeq
  have hle : leE l0 ⟨id, lo, fa, re, sz, dt⟩ = frE ⟨id, lo, fa, re, sz, dt⟩ := by rw [HLQ.out]; unfold leE; rw [if_pos HC.out]
  have h2 := Put_any a0 0 c0 l0 ⟨⟨id, lo, fa, re, sz, dt⟩, va, vl, vc⟩ w1 (HS.out.kept HB1.out) HI1.out (HYV.out _ HB1.out)
  have h3 := fun W (hW : Below w1.heap.size w1 W) => renew_uni a0 0 c0 l0 ⟨⟨id, lo, fa, re, sz, dt⟩, va, vl, vc⟩ W (HS.out.kept (bl2 HB1.out hW)) (HI1.out.kept hW) (HYV.out _ (bl2 HB1.out hW)) (by rw [hle]; exact HE.out)
  obtain ⟨pe, hpe⟩ : ∃ pe, pe = putE l0 ⟨id, lo, fa, re, sz, dt⟩ := ⟨_, rfl⟩
  have hpe2 : pe = if l.length = 16 then 11 else 0 := by rw [hpe]; unfold putE; rw [hle, if_pos HE.out, HL0.out]
  rw [← hpe] at h2
  have HPE := Hid.mk hpe
  have HPE2 := Hid.mk hpe2
  clear hpe hpe2
  have h4 := fun W (hW : Below w1.heap.size w1 W) => take_bad a0 0 c0 l0 W (HS.out.kept (bl2 HB1.out hW)) (HI1.out.kept hW) (.inr rfl)
  have hte : takeE (l0.map (·.f)) = 8 := by unfold takeE; rw [HF0.out, if_pos HC.out, if_pos (by rw [List.length_map, HLEN.out])]
  rw [hte] at h4
  clear hte
  have h5 := fun W (hW : Below w1.heap.size w1 W) => sameFrs_true a0 0 c0 l0 a cap l W (HI1.out.kept hW) (HF.out.kept (bl2 HB1.out hW)) HF0.out
  have HCK := Hid.mk (fun W (hW : Below w.heap.size w W) => HCF.out.fr ⟨id, lo, fa, re, sz, dt⟩ va vl vc W (HYV.out _ hW))
  rw [HC.out] at HCQ HQC
  unfold frameV at h2 h3 HCK
  simp only at h2 h3 HCK
  rw [HE.out] at HCK
  have H2 := Hid.mk h2
  have H3 := Hid.mk h3
  have H4 := Hid.mk h4
  have H5 := Hid.mk h5
  clear hle h2 h3 h4 h5
  go_wp2_with fail
  refine H2.out.mono ?_
  rintro e w2 ⟨r1, l1, rfl, ho1, hf1, hnil1, hb2⟩
  obtain ⟨a1, c1, rfl, hP1⟩ := ho1.frames
  have HP2 := Hid.mk hP1
  have HF1 := Hid.mk hf1
  have HN1 := Hid.mk hnil1
  have HB2 := Hid.mk (bl2 HB1.out hb2)
  have HK2 := Hid.mk (HK1.out.kept hb2)
  have HI2 := Hid.mk (HI1.out.kept hb2)
  have HW2 := Hid.mk hb2
  obtain ⟨n1, hn1⟩ : ∃ n1, n1 = l1.length := ⟨_, rfl⟩
  rw [← hn1] at HP2 ⊢
  have HNN1 := Hid.mk hn1
  clear hb2 hnil1 hf1 ho1 hP1 hn1
  clear k0 k1 k2 k3 k4 k5
  obtain ⟨k0, k1, k2, k3, k4, k5⟩ := HK2.out
  go_wp2_with fail
  refine (H3.out _ HW2.out).mono ?_
  rintro e w3 ⟨r2, l2, ge, rfl, ho2, hren, hb3⟩
  obtain ⟨a2, c2, rfl, hR3⟩ := ho2.frames
  obtain ⟨n2, hn2⟩ : ∃ n2, n2 = l2.length := ⟨_, rfl⟩
  rw [← hn2] at hR3 ⊢
  have HNN2 := Hid.mk hn2
  have HR3 := Hid.mk hR3
  have HREN := Hid.mk hren
  have HB3 := Hid.mk (bl2 HB2.out hb3)
  have HK3 := Hid.mk (HK2.out.kept hb3)
  have HI3 := Hid.mk (HI2.out.kept hb3)
  have HP3 := Hid.mk (HP2.out.kept hb3)
  have HW3 := Hid.mk (bl2 HW2.out hb3)
  clear hb3 hren ho2 hR3 hn2
  clear k0 k1 k2 k3 k4 k5
  go_wp2_with fail
  refine (H4.out _ HW3.out).mono ?_
  rintro e w4 ⟨rfl, hb4⟩
  have hb4' := bl2 hb4 (below_box w4 0 false false false 0 none 0 0)
  have hz4 := FrAt.box w4 0 false false false 0 none 0 0
  have HB4 := Hid.mk (bl2 HB3.out hb4')
  have HK4 := Hid.mk (HK3.out.kept hb4')
  have HI4 := Hid.mk (HI3.out.kept hb4')
  have HP4 := Hid.mk (HP3.out.kept hb4')
  have HR4 := Hid.mk (HR3.out.kept hb4')
  have HW4 := Hid.mk (bl2 HW3.out hb4')
  have HZ4 := Hid.mk hz4
  unfold frameC at HB4 HK4 HI4 HW4 HZ4 HP4 HR4
  clear hb4 hb4' hz4
  simp only [FrV.cells, zV]
  go_wp2_with fail
  refine (HCQ.out _ HB4.out).mono ?_
  rintro e w5 ⟨rfl, hb5⟩
  have HB5 := Hid.mk (bl2 HB4.out hb5)
  have HK5 := Hid.mk (HK4.out.kept hb5)
  have HI5 := Hid.mk (HI4.out.kept hb5)
  have HP5 := Hid.mk (HP4.out.kept hb5)
  have HR5 := Hid.mk (HR4.out.kept hb5)
  have HZ5 := Hid.mk (HZ4.out.kept hb5)
  have HW5 := Hid.mk (bl2 HW4.out hb5)
  clear hb5
  go_wp2_with fail
  refine (HQ.out _ HB5.out).mono ?_
  rintro e w6 ⟨rfl, hb6⟩
  have HB6 := Hid.mk (bl2 HB5.out hb6)
  have HK6 := Hid.mk (HK5.out.kept hb6)
  have HI6 := Hid.mk (HI5.out.kept hb6)
  have HP6 := Hid.mk (HP5.out.kept hb6)
  have HR6 := Hid.mk (HR5.out.kept hb6)
  have HZ6 := Hid.mk (HZ5.out.kept hb6)
  have HW6 := Hid.mk (bl2 HW5.out hb6)
  clear hb6
  go_wp2_with fail
  refine (HQC.out _ HB6.out).mono ?_
  rintro e w7 ⟨rfl, hb7⟩
  have HB7 := Hid.mk (bl2 HB6.out hb7)
  have HK7 := Hid.mk (HK6.out.kept hb7)
  have HI7 := Hid.mk (HI6.out.kept hb7)
  have HP7 := Hid.mk (HP6.out.kept hb7)
  have HR7 := Hid.mk (HR6.out.kept hb7)
  have HZ7 := Hid.mk (HZ6.out.kept hb7)
  have HW7 := Hid.mk (bl2 HW6.out hb7)
  clear hb7
  go_wp2_with fail
  refine (H5.out _ HW7.out).mono ?_
  rintro e w8 ⟨rfl, hb8⟩
  have HB8 := Hid.mk (bl2 HB7.out hb8)
  have HK8 := Hid.mk (HK7.out.kept hb8)
  have HI8 := Hid.mk (HI7.out.kept hb8)
  have HP8 := Hid.mk (HP7.out.kept hb8)
  have HR8 := Hid.mk (HR7.out.kept hb8)
  have HZ8 := Hid.mk (HZ7.out.kept hb8)
  have HW8 := Hid.mk (bl2 HW7.out hb8)
  clear hb8
  obtain ⟨z0, z1, z2, z3, z4, z5⟩ := HZ8.out
  go_wp2_with fail
  refine (noFrameN _).mono ?_
  rintro e w9 ⟨rfl, hb9⟩
  have HB9 := Hid.mk (bl2 HB8.out hb9)
  have HK9 := Hid.mk (HK8.out.kept hb9)
  have HI9 := Hid.mk (HI8.out.kept hb9)
  have HP9 := Hid.mk (HP8.out.kept hb9)
  have HR9 := Hid.mk (HR8.out.kept hb9)
  clear hb9 z0 z1 z2 z3 z4 z5
  obtain ⟨k0, k1, k2, k3, k4, k5⟩ := HK9.out
  go_wp2_with fail
  refine (HCK.out _ HB9.out).mono ?_
  rintro e w10 ⟨rfl, hb10⟩
  have HB10 := Hid.mk (bl2 HB9.out hb10)
  have HK10 := Hid.mk (HK9.out.kept hb10)
  have HI10 := Hid.mk (HI9.out.kept hb10)
  have HP10 := Hid.mk (HP9.out.kept hb10)
  have HR10 := Hid.mk (HR9.out.kept hb10)
  clear hb10 k0 k1 k2 k3 k4 k5
  obtain ⟨k0, k1, k2, k3, k4, k5⟩ := HK10.out
  have hidr := frE_ok HE.out
  simp only at hidr
  have HNA := Hid.mk (fun W (hW : Below w.heap.size w W) => nameOf_any ⟨id, lo, fa, re, sz, dt⟩ va vl vc W (cell_kept hW HD.out) hidr.1 hidr.2.1)
  unfold frameV at HNA
  simp only at HNA
  clear hidr
  obtain ⟨nm, hnm⟩ : ∃ nm, nm = nameL ⟨id, lo, fa, re, sz, dt⟩ := ⟨_, rfl⟩
  rw [← hnm] at HNA
  have HNM := Hid.mk hnm
  clear hnm
  have hpe0 : pe = 0 := by rw [HPE2.out, if_neg (by rw [HLEN.out]; decide)]
  subst hpe0
  have HF1b := Hid.mk (HF1.out rfl)
  have hl1 : n1 = 0 + 1 := by rw [HNN1.out, ← List.length_map (f := fun u : FrV => u.f), HF1.out rfl, putF_len, List.length_map, HL0.out, HLEN.out]
  subst hl1
  have HPF := Hid.mk (fun W (hW : Below w.heap.size w W) => putFrame_any a 0 cap l ⟨⟨id, lo, fa, re, sz, dt⟩, va, vl, vc⟩ W (cell_kept hW HD.out) (HF.out.kept hW) (by omega) (HYV.out _ hW) HALL.out HE.out)
  unfold frameV at HPF
  simp only at HPF
  go_wp2_with fail
  refine (HPF.out _ HB10.out).mono ?_
  rintro e w11 ⟨rp, cp, rfl, hPF, hb11⟩
  have HB11 := Hid.mk (bl2 HB10.out hb11)
  have HK11 := Hid.mk (HK10.out.kept hb11)
  have HI11 := Hid.mk (HI10.out.kept hb11)
  have HP11 := Hid.mk (HP10.out.kept hb11)
  have HR11 := Hid.mk (HR10.out.kept hb11)
  have HSP := Hid.mk (sameFrs_true a1 (0 + 1) c1 l1 rp cp (putV l ⟨⟨id, lo, fa, re, sz, dt⟩, va, vl, vc⟩) w11 HP11.out hPF (by rw [HF1b.out, putV_f, HF0.out]))
  clear hb11 hPF k0 k1 k2 k3 k4 k5
  go_wp2_with fail
  refine HSP.out.mono ?_
  rintro e w12 ⟨rfl, hb12⟩
  have HB12 := Hid.mk (bl2 HB11.out hb12)
  have HK12 := Hid.mk (HK11.out.kept hb12)
  have HI12 := Hid.mk (HI11.out.kept hb12)
  have HP12 := Hid.mk (HP11.out.kept hb12)
  have HR12 := Hid.mk (HR11.out.kept hb12)
  clear hb12 HSP
  go_wp2_with fail
  go_loopw [166] (fun i wr => ∃ (k : Nat), k ≤ 0 ∧ i = .int .i64 k ∧ Hid (∀ j (hj : j < l.length), j < k → nameL l[j].f ≠ nm) ∧ Hid (FrAt wr w.heap.size id lo fa re sz va vl vc) ∧ Hid (IsFrames wr a1 ((0 + 1)) c1 l1) ∧ Hid (IsFrames wr a2 n2 c2 l2) ∧ Hid (Below w.heap.size w wr)) (fun i _ => 0 - (intOf i).toNat)
  case atStart => exact ⟨0, Nat.zero_le _, rfl, Hid.mk (fun j hj h => absurd h (Nat.not_lt_zero _)), HK12, HP12, HR12, HB12⟩
  case round =>
    obtain ⟨k, hk, rfl, HNO, HK, HP, HR, HB⟩ := hrel
    obtain rfl : k = 0 := by omega
    have hmiss := miss_of (v := ⟨⟨id, lo, fa, re, sz, dt⟩, va, vl, vc⟩) HF0.out (fun j hj => by
      have := HNO.out j hj (by rw [HLEN.out] at hj; omega)
      rw [HNM.out] at this
      exact this)
    obtain ⟨hge, hz, hnz⟩ := HREN.out.miss hmiss
    rw [← HPE.out] at hge hz hnz
    subst hge
    have hf2 := hz rfl
    have hn2 : n2 = 0 + 1 := by rw [HNN2.out, ← List.length_map (f := fun u : FrV => u.f), hf2, putF_len, List.length_map, HL0.out, HLEN.out]
    subst hn2
    have HSE := Hid.mk (sameFrs_true a2 (0 + 1) c2 l2 a1 c1 l1 wr HR.out HP.out (by rw [hf2, HF1b.out]))
    clear hf2 hz hnz hmiss
    go_wp2_with fail
    refine HSE.out.mono ?_
    rintro e w20 ⟨rfl, hb20⟩
    have HB20 := Hid.mk (bl2 HB.out hb20)
    clear hb20
    go_wp2_with fail
    go_ret
    exact ⟨rfl, HB20.out⟩
end Bw
end Go.Proofs.YthdffdobkampaaaDoor
