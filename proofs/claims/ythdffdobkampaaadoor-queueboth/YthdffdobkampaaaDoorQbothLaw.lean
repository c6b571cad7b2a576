/- QueueBoth's walk. -/
import Derived.Test.YthdffdobkampaaaDoorQueued
namespace Go.Proofs.YthdffdobkampaaaDoor
open Go.ChangeShapes Go.WideShapes Go.ChangeAt Go.RowKit
namespace Bw
open Bm Cm
theorem less_or {a b : List UInt8} (h : Op.bytesLess a b = false) : (Op.bytesLess b a || b == a) = true := by
  rcases Bool.eq_false_or_eq_true (Op.bytesLess b a) with h' | h'
  · rw [h']; rfl
  · rw [h', less_tot a b h h']; simp
theorem gtrQ (s1 s2 : ByteArray) (q : Bool) (h : (!(Op.bytesLess s1.toList s2.toList || s1.toList == s2.toList)) = q) (W : World) : (binOp .gtr 9 (.string s1) (.string s2)).run Tryd.prog W = .ok (.bool q) W := by
  have e : binOp .gtr 9 (.string s1) (.string s2) = pure (.bool !(Op.bytesLess s1.toList s2.toList || s1.toList == s2.toList)) := by simp [binOp, Op.stringOp]
  rw [e, h]
  rfl
theorem both_head (a b : List Fr) (ha : chkQ a = 0) (hb : chkQ b = 0) (q : List Fr) (hq : q = a ∨ q = b) (h0 : 0 < q.length) :
    0 < ((mrgF a b).take 16).length ∧ frE (((mrgF a b).take 16).getD 0 (fq 0)) = 0 ∧ frE (q.getD 0 (fq 0)) = 0 ∧ Op.bytesLess (nameL (q.getD 0 (fq 0))) (nameL (((mrgF a b).take 16).getD 0 (fq 0))) = false := by
  obtain ⟨a1, a2, a3⟩ := chk_ok ha
  obtain ⟨b1, b2, _⟩ := chk_ok hb
  have hl := mrgF_len b a
  have hpos : 0 < (mrgF a b).length := by rcases hq with rfl | rfl <;> omega
  have hm := mrgF_ok ha hb
  obtain ⟨_, m2, _⟩ := chk_ok hm
  have ht : 0 < ((mrgF a b).take 16).length := by rw [List.length_take]; omega
  have e1 : ((mrgF a b).take 16).getD 0 (fq 0) = (mrgF a b)[0] := by simp [List.getD, hpos]
  have e1' : ((mrgF a b).take 16).getD 0 (fq 0) = ((mrgF a b).take 16)[0] := by simp [List.getD, hpos]
  have e2 : q.getD 0 (fq 0) = q[0] := by simp [List.getD, h0]
  have hmem : q[0] ∈ mrgF a b := by
    rw [mrgF_mem]
    rcases hq with rfl | rfl
    · exact .inl (List.getElem_mem h0)
    · exact .inr (List.getElem_mem h0)
  refine ⟨ht, ?_, ?_, ?_⟩
  · rw [e1']; exact m2 _ (List.getElem_mem ht)
  · rw [e2]
    rcases hq with rfl | rfl
    · exact a2 _ (List.getElem_mem h0)
    · exact b2 _ (List.getElem_mem h0)
  · rw [e1, e2]
    exact sort_head (mrgF_sort b a3) hpos _ hmem
set_option maxHeartbeats 1000000 in
set_option maxRecDepth 100000 in
theorem both_bad (a : Option Addr) (n cap : Nat) (l : List FrV) (a' : Option Addr) (n' cap' : Nat) (l' : List FrV) (w : World) (hS : SizesAt w) (hF : IsFrames w a n cap l) (hF' : IsFrames w a' n' cap' l') (hq : mrgE (l.map (·.f)) (l'.map (·.f)) ≠ 0) :
    Calls Tryd.prog 6 #[.slice a n cap, .slice a' n' cap'] w fun e w' => e = .returned (.bool true) ∧ Below w.heap.size w w' := by
  have h1 := merge_bad a n cap l a' n' cap' l' w hS hF hF' hq
  have hne : (mrgE (l.map (·.f)) (l'.map (·.f)) != 0) = true := by simpa using hq
  generalize mrgE (l.map (·.f)) (l'.map (·.f)) = ce at *
  have H1 := Hid.mk h1
  have HS := Hid.mk hS
  clear h1 hS hF hF' hq
  go_enter Tryd.func6, Tryd.ntmps6
  go_wp2_with fail
  refine H1.out.mono ?_
  rintro e w1 ⟨rfl, hb1⟩
  go_wp2_with fail
  refine (queued_any _ (HS.out.kept hb1)).mono ?_
  rintro e w2 ⟨rfl, hb2⟩
  have hb12 := bl2 hb1 hb2
  go_wp2_with fail
  refine (queued_any _ (HS.out.kept hb12)).mono ?_
  rintro e w3 ⟨rfl, hb3⟩
  go_wp2_with fail
  go_ret
  exact ⟨rfl, bl2 hb12 hb3⟩
set_option maxHeartbeats 2000000 in
set_option maxRecDepth 100000 in
theorem both_ok (a : Option Addr) (n cap : Nat) (l : List FrV) (a' : Option Addr) (n' cap' : Nat) (l' : List FrV) (w : World) (hS : SizesAt w) (hF : IsFrames w a n cap l) (hF' : IsFrames w a' n' cap' l') (hc : chkQ (l.map (·.f)) = 0) (hc' : chkQ (l'.map (·.f)) = 0) :
    Calls Tryd.prog 6 #[.slice a n cap, .slice a' n' cap'] w fun e w' => e = .returned (.bool true) ∧ Below w.heap.size w w' := by
  have h1 := merge_ok a n cap l a' n' cap' l' w hS hF hF' hc hc'
  obtain ⟨q1, _⟩ := chk_ok hc
  obtain ⟨q1', _⟩ := chk_ok hc'
  rw [List.length_map] at q1 q1'
  have hn := hF.len
  have hn' := hF'.len
  have G1 := Hid.mk (both_head _ _ hc hc' _ (.inl rfl))
  have G2 := Hid.mk (both_head _ _ hc hc' _ (.inr rfl))
  have HCM := Hid.mk (mrgF_ok hc hc')
  have HML := Hid.mk (show ((mrgF (l.map (·.f)) (l'.map (·.f))).take 16).length = min 16 (n + n') by rw [List.length_take, mrgF_len, List.length_map, List.length_map, hn, hn'])
  rw [List.length_map, hn] at G1
  rw [List.length_map, hn'] at G2
  generalize hML : (mrgF (l.map (·.f)) (l'.map (·.f))).take 16 = ML at *
  have H1 := Hid.mk h1
  have HS := Hid.mk hS
  have HF := Hid.mk hF
  have HF' := Hid.mk hF'
  have q3 : n ≤ 16 := by omega
  have q4 : n' ≤ 16 := by omega
  clear h1 hS hF hF' hc hc' hML q1 q1' hn hn'
  go_enter Tryd.func6, Tryd.ntmps6
  go_wp2_with fail
  refine H1.out.mono ?_
  rintro e w1 ⟨r, lm, rfl, hf, ho, hb1⟩
  obtain ⟨am, cm, rfl, hM⟩ := ho.frames
  have HB1 := Hid.mk hb1
  obtain ⟨M, hMM⟩ : ∃ M, M = lm.length := ⟨_, rfl⟩
  rw [← hMM] at hM ⊢
  have hMl : M = min 16 (n + n') := by rw [hMM, ← List.length_map (f := fun v : FrV => v.f), hf]; exact HML.out
  obtain ⟨D, hD⟩ : ∃ D, D = n + n' - 16 := ⟨_, rfl⟩
  rw [← hD]
  have hsum : (M : Int) + (D : Int) = (n : Int) + (n' : Int) := by omega
  have hMs : M ≤ 16 := by omega
  have hDs : D ≤ 32 := by omega
  subst hf
  have HM0 := Hid.mk hM
  have HLM := Hid.mk hMM
  clear hb1 ho hM hMM hMl hD
  go_wp2_with fail
  refine (queued_any _ (HS.out.kept HB1.out)).mono ?_
  rintro e w2 ⟨rfl, hb2⟩
  have HB2 := Hid.mk (bl2 HB1.out hb2)
  have HM := Hid.mk (HM0.out.kept hb2)
  have h3 := check_qany am M cm lm w2 (HS.out.kept HB2.out) HM.out
  rw [HCM.out] at h3
  have H3 := Hid.mk h3
  clear hb2 h3
  go_wp2_with fail
  refine H3.out.mono ?_
  rintro e w3 ⟨rfl, hb3⟩
  have hba : Below w3.heap.size w3 (w3.alloc (.cells #[.slice a n cap, .slice a' n' cap'] 22)) := (Below.refl _ _).alloc (Nat.le_refl _) _
  have HB4 := Hid.mk (bl2 (bl2 HB2.out hb3) hba)
  have HM4 := Hid.mk (HM.out.kept (bl2 hb3 hba))
  clear hb3 hba H3 H1
  go_wp2_with fail
  go_loopw [47] (fun i wr => ∃ (k : Nat), k ≤ 2 ∧ i = .int .i64 k ∧ Hid (wr.cell? ⟨w3.heap.size, 0, none⟩ = some (.slice a n cap) ∧ wr.cell? ⟨w3.heap.size, 1, none⟩ = some (.slice a' n' cap')) ∧ Hid (IsFrames wr am M cm lm) ∧ Hid (Below w.heap.size w wr)) (fun i _ => 2 - (intOf i).toNat)
  case atStart => exact ⟨0, by omega, rfl, Hid.mk ⟨by simp, by simp⟩, HM4, HB4⟩
  case round =>
    obtain ⟨k, hk, rfl, HR, HMr, HB⟩ := hrel
    obtain ⟨l0, l1⟩ := HR.out
    rcases (show k = 0 ∨ k = 1 ∨ k = 2 by omega) with rfl | rfl | rfl
    · focus
        have hq0 := G1.out
        by_cases hp : 0 < n
        · have hp' : (0 : Int) < (n : Int) := by omega
          obtain ⟨hm0, hmn, hE0, hname⟩ := hq0 hp
          rw [List.length_map, ← HLM.out] at hm0
          have hm0' : ((M : Int) == 0) = false := by simp; omega
          have hM' : (0 : Int) < (M : Int) := by omega
          cases a with
          | none => exact absurd (HF.out.none rfl) (by omega)
          | some x =>
            cases am with
            | none => exact absurd (HM.out.none rfl) (by omega)
            | some y =>
              have hkl : 0 < l.length := by rw [HF.out.len]; exact hp
              have hkm : 0 < lm.length := by rw [HM.out.len]; exact hm0
              have cc := fun (j : Nat) (hj : j < 6) => cell_kept HB.out (HF.out.cell x rfl 0 hkl j hj)
              have dd := fun (j : Nat) (hj : j < 6) => HMr.out.cell y rfl 0 hkm j hj
              have hby := HF.out.bytes 0 hkl
              have hbm := HMr.out.bytes 0 hkm
              have hg0 : (l.map (·.f)).getD 0 (fq 0) = l[0].f := by simp [List.getD, hkl]
              have hg1 : (lm.map (·.f)).getD 0 (fq 0) = lm[0].f := by simp [List.getD, hkm]
              rw [hg0] at hE0 hname
              rw [hg1] at hmn hname
              generalize l[0] = v at *
              generalize lm[0] = u at *
              obtain ⟨⟨id, lo, fa, re, sz, dt⟩, va, vl, vc⟩ := v
              obtain ⟨⟨id', lo', fa', re', sz', dt'⟩, ua, ul, uc⟩ := u
              simp only at hby hbm hE0 hmn hname
              have ex : x.add (0 * 6 + 0) = x := by unfold Addr.add; simp
              have ey : y.add (0 * 6 + 0) = y := by unfold Addr.add; simp
              have exj : ∀ j, x.add (0 * 6 + (j + 1)) = ⟨x.block, x.off + (j + 1), none⟩ := fun j => by unfold Addr.add; simp
              have eyj : ∀ j, y.add (0 * 6 + (j + 1)) = ⟨y.block, y.off + (j + 1), none⟩ := fun j => by unfold Addr.add; simp
              have c0 := cc 0 (by omega)
              have c1 := cc 1 (by omega)
              have c2 := cc 2 (by omega)
              have c3 := cc 3 (by omega)
              have c4 := cc 4 (by omega)
              have c5 := cc 5 (by omega)
              rw [ex] at c0
              rw [exj] at c1 c2 c3 c4 c5
              simp only [FrV.cells, List.getElem_cons_zero, List.getElem_cons_succ, Nat.reduceAdd] at c0 c1 c2 c3 c4 c5
              have d0 := dd 0 (by omega)
              have d1 := dd 1 (by omega)
              have d2 := dd 2 (by omega)
              have d3 := dd 3 (by omega)
              have d4 := dd 4 (by omega)
              have d5 := dd 5 (by omega)
              rw [ey] at d0
              rw [eyj] at d1 d2 d3 d4 d5
              simp only [FrV.cells, List.getElem_cons_zero, List.getElem_cons_succ, Nat.reduceAdd] at d0 d1 d2 d3 d4 d5
              have hn1 := fun W (h : SizesAt W) => frName_any ⟨id, lo, fa, re, sz, dt⟩ va vl vc W h (Nat.le_trans hby.2.1 hby.2.2.1) hby.1
              have hn2 := fun W (h : SizesAt W) => frName_any ⟨id', lo', fa', re', sz', dt'⟩ ua ul uc W h (Nat.le_trans hbm.2.1 hbm.2.2.1) hbm.1
              unfold nameA at hn1 hn2
              rw [if_pos hE0] at hn1
              rw [if_pos hmn] at hn2
              generalize nameL ⟨id, lo, fa, re, sz, dt⟩ = nm at *
              generalize nameL ⟨id', lo', fa', re', sz', dt'⟩ = nm' at *
              have hcmp : (!(Op.bytesLess (ByteArray.mk nm'.toArray).toList (ByteArray.mk nm.toArray).toList || (ByteArray.mk nm'.toArray).toList == (ByteArray.mk nm.toArray).toList)) = false := by
                rw [ByteArray.toList_eq, ByteArray.toList_eq]
                exact congrArg Bool.not (less_or hname)
              have hgt := fun W => gtrQ (ByteArray.mk nm'.toArray) (ByteArray.mk nm.toArray) false hcmp W
              generalize ByteArray.mk nm'.toArray = NB' at *
              generalize ByteArray.mk nm.toArray = NB at *
              clear hcmp
              have HN1 := Hid.mk hn1
              have HN2 := Hid.mk hn2
              unfold frameV at HN1 HN2
              simp only at HN1 HN2
              have HD := Hid.mk (show _ ∧ _ ∧ _ ∧ _ ∧ _ ∧ _ from ⟨d0, d1, d2, d3, d4, d5⟩)
              clear cc dd hby hbm hg0 hg1 ex ey exj eyj hn1 hn2 d0 d1 d2 d3 d4 d5 hE0 hmn hname
              go_wp2_with fail
              refine (HN1.out _ (HS.out.kept HB.out)).mono ?_
              rintro e w5 ⟨rfl, hb5⟩
              obtain ⟨d0, d1, d2, d3, d4, d5⟩ := HD.out
              replace d0 := cell_kept hb5 d0
              replace d1 := cell_kept hb5 d1
              replace d2 := cell_kept hb5 d2
              replace d3 := cell_kept hb5 d3
              replace d4 := cell_kept hb5 d4
              replace d5 := cell_kept hb5 d5
              have HB5 := Hid.mk (bl2 HB.out hb5)
              have HM5 := Hid.mk (HMr.out.kept hb5)
              have hl5 := cell_kept hb5 l0
              have ha5 := cell_kept hb5 l1
              clear hb5 c0 c1 c2 c3 c4 c5 HD
              go_wp2_with fail
              refine (HN2.out _ (HS.out.kept HB5.out)).mono ?_
              rintro e w6 ⟨rfl, hb6⟩
              have HB6 := Hid.mk (bl2 HB5.out hb6)
              have HM6 := Hid.mk (HM5.out.kept hb6)
              have hl6 := cell_kept hb6 hl5
              have ha6 := cell_kept hb6 ha5
              clear hb6 d0 d1 d2 d3 d4 d5 hl5 ha5
              go_wp2_with fail
              go_roundw
              case rel => exact ⟨0 + 1, by omega, by go_num, Hid.mk ⟨hl6, ha6⟩, HM6, HB6⟩
              case measure => simp [intOf]
        · have hp' : ¬ (0 : Int) < (n : Int) := by omega
          go_wp2_with fail
          go_roundw
          case rel => exact ⟨0 + 1, by omega, by go_num, Hid.mk ⟨l0, l1⟩, HMr, HB⟩
          case measure => simp [intOf]
    · focus
        have hq0 := G2.out
        by_cases hp : 0 < n'
        · have hp' : (0 : Int) < (n' : Int) := by omega
          obtain ⟨hm0, hmn, hE0, hname⟩ := hq0 hp
          rw [List.length_map, ← HLM.out] at hm0
          have hm0' : ((M : Int) == 0) = false := by simp; omega
          have hM' : (0 : Int) < (M : Int) := by omega
          cases a' with
          | none => exact absurd (HF'.out.none rfl) (by omega)
          | some x =>
            cases am with
            | none => exact absurd (HM.out.none rfl) (by omega)
            | some y =>
              have hkl : 0 < l'.length := by rw [HF'.out.len]; exact hp
              have hkm : 0 < lm.length := by rw [HM.out.len]; exact hm0
              have cc := fun (j : Nat) (hj : j < 6) => cell_kept HB.out (HF'.out.cell x rfl 0 hkl j hj)
              have dd := fun (j : Nat) (hj : j < 6) => HMr.out.cell y rfl 0 hkm j hj
              have hby := HF'.out.bytes 0 hkl
              have hbm := HMr.out.bytes 0 hkm
              have hg0 : (l'.map (·.f)).getD 0 (fq 0) = l'[0].f := by simp [List.getD, hkl]
              have hg1 : (lm.map (·.f)).getD 0 (fq 0) = lm[0].f := by simp [List.getD, hkm]
              rw [hg0] at hE0 hname
              rw [hg1] at hmn hname
              generalize l'[0] = v at *
              generalize lm[0] = u at *
              obtain ⟨⟨id, lo, fa, re, sz, dt⟩, va, vl, vc⟩ := v
              obtain ⟨⟨id', lo', fa', re', sz', dt'⟩, ua, ul, uc⟩ := u
              simp only at hby hbm hE0 hmn hname
              have ex : x.add (0 * 6 + 0) = x := by unfold Addr.add; simp
              have ey : y.add (0 * 6 + 0) = y := by unfold Addr.add; simp
              have exj : ∀ j, x.add (0 * 6 + (j + 1)) = ⟨x.block, x.off + (j + 1), none⟩ := fun j => by unfold Addr.add; simp
              have eyj : ∀ j, y.add (0 * 6 + (j + 1)) = ⟨y.block, y.off + (j + 1), none⟩ := fun j => by unfold Addr.add; simp
              have c0 := cc 0 (by omega)
              have c1 := cc 1 (by omega)
              have c2 := cc 2 (by omega)
              have c3 := cc 3 (by omega)
              have c4 := cc 4 (by omega)
              have c5 := cc 5 (by omega)
              rw [ex] at c0
              rw [exj] at c1 c2 c3 c4 c5
              simp only [FrV.cells, List.getElem_cons_zero, List.getElem_cons_succ, Nat.reduceAdd] at c0 c1 c2 c3 c4 c5
              have d0 := dd 0 (by omega)
              have d1 := dd 1 (by omega)
              have d2 := dd 2 (by omega)
              have d3 := dd 3 (by omega)
              have d4 := dd 4 (by omega)
              have d5 := dd 5 (by omega)
              rw [ey] at d0
              rw [eyj] at d1 d2 d3 d4 d5
              simp only [FrV.cells, List.getElem_cons_zero, List.getElem_cons_succ, Nat.reduceAdd] at d0 d1 d2 d3 d4 d5
              have hn1 := fun W (h : SizesAt W) => frName_any ⟨id, lo, fa, re, sz, dt⟩ va vl vc W h (Nat.le_trans hby.2.1 hby.2.2.1) hby.1
              have hn2 := fun W (h : SizesAt W) => frName_any ⟨id', lo', fa', re', sz', dt'⟩ ua ul uc W h (Nat.le_trans hbm.2.1 hbm.2.2.1) hbm.1
              unfold nameA at hn1 hn2
              rw [if_pos hE0] at hn1
              rw [if_pos hmn] at hn2
              generalize nameL ⟨id, lo, fa, re, sz, dt⟩ = nm at *
              generalize nameL ⟨id', lo', fa', re', sz', dt'⟩ = nm' at *
              have hcmp : (!(Op.bytesLess (ByteArray.mk nm'.toArray).toList (ByteArray.mk nm.toArray).toList || (ByteArray.mk nm'.toArray).toList == (ByteArray.mk nm.toArray).toList)) = false := by
                rw [ByteArray.toList_eq, ByteArray.toList_eq]
                exact congrArg Bool.not (less_or hname)
              have hgt := fun W => gtrQ (ByteArray.mk nm'.toArray) (ByteArray.mk nm.toArray) false hcmp W
              generalize ByteArray.mk nm'.toArray = NB' at *
              generalize ByteArray.mk nm.toArray = NB at *
              clear hcmp
              have HN1 := Hid.mk hn1
              have HN2 := Hid.mk hn2
              unfold frameV at HN1 HN2
              simp only at HN1 HN2
              have HD := Hid.mk (show _ ∧ _ ∧ _ ∧ _ ∧ _ ∧ _ from ⟨d0, d1, d2, d3, d4, d5⟩)
              clear cc dd hby hbm hg0 hg1 ex ey exj eyj hn1 hn2 d0 d1 d2 d3 d4 d5 hE0 hmn hname
              go_wp2_with fail
              refine (HN1.out _ (HS.out.kept HB.out)).mono ?_
              rintro e w5 ⟨rfl, hb5⟩
              obtain ⟨d0, d1, d2, d3, d4, d5⟩ := HD.out
              replace d0 := cell_kept hb5 d0
              replace d1 := cell_kept hb5 d1
              replace d2 := cell_kept hb5 d2
              replace d3 := cell_kept hb5 d3
              replace d4 := cell_kept hb5 d4
              replace d5 := cell_kept hb5 d5
              have HB5 := Hid.mk (bl2 HB.out hb5)
              have HM5 := Hid.mk (HMr.out.kept hb5)
              have hl5 := cell_kept hb5 l1
              have ha5 := cell_kept hb5 l0
              clear hb5 c0 c1 c2 c3 c4 c5 HD
              go_wp2_with fail
              refine (HN2.out _ (HS.out.kept HB5.out)).mono ?_
              rintro e w6 ⟨rfl, hb6⟩
              have HB6 := Hid.mk (bl2 HB5.out hb6)
              have HM6 := Hid.mk (HM5.out.kept hb6)
              have hl6 := cell_kept hb6 hl5
              have ha6 := cell_kept hb6 ha5
              clear hb6 d0 d1 d2 d3 d4 d5 hl5 ha5
              go_wp2_with fail
              go_roundw
              case rel => exact ⟨1 + 1, by omega, by go_num, Hid.mk ⟨ha6, hl6⟩, HM6, HB6⟩
              case measure => simp [intOf]
        · have hp' : ¬ (0 : Int) < (n' : Int) := by omega
          go_wp2_with fail
          go_roundw
          case rel => exact ⟨1 + 1, by omega, by go_num, Hid.mk ⟨l0, l1⟩, HMr, HB⟩
          case measure => simp [intOf]
    · go_wp2_with fail
      go_ret
      exact ⟨rfl, HB.out⟩
end Bw
end Go.Proofs.YthdffdobkampaaaDoor
