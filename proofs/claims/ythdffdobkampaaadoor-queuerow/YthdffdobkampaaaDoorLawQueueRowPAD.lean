/- Joined out of our texts: QPutRef, EqualB, RefSame, QSame, QOwn, QRenew, QputKit, QTake, QMerge. -/
import Derived.Test.YthdffdobkampaaaDoorLawQueueRowPAC
import Derived.Deep.RegionHeld3
import Derived.Test.YthdffdobkampaaaDoorLawQueueRowRAB
import Derived.Test.YthdffdobkampaaaDoorLawQueueRowPAA
import Derived.Test.YthdffdobkampaaaDoorLawQueueRowPAB
import Derived.Shelf.Spec.SlicesInsert
/- What the document's own PutFrame answers of right frames. -/
namespace Go.Proofs.YthdffdobkampaaaDoor
open Go.ChangeShapes Go.WideShapes Go.ChangeAt Go.RowKit
namespace Bw
open Bm Cm Go.Sort
theorem le_not (a b : List UInt8) : (Op.bytesLess a b || a == b) = !Op.bytesLess b a := by
  rcases Bool.eq_false_or_eq_true (Op.bytesLess b a) with h | h
  · rw [h, less_not h]
    have : (a == b) = false := by
      have := less_ne h
      simp only [beq_eq_false_iff_ne, ne_eq]
      exact fun e => this e.symm
    rw [this]; rfl
  · rw [h]
    rcases Bool.eq_false_or_eq_true (Op.bytesLess a b) with h' | h'
    · rw [h']; rfl
    · rw [h', less_tot a b h' h]; simp
theorem leqQ (s1 s2 : List UInt8) (q : Bool) (h : Op.bytesLess s2 s1 = q) (W : World) : (binOp .leq 9 (.string ⟨s1.toArray⟩) (.string ⟨s2.toArray⟩)).run Tryd.prog W = .ok (.bool !q) W := by
  have e : binOp .leq 9 (.string ⟨s1.toArray⟩) (.string ⟨s2.toArray⟩) = pure (.bool (Op.bytesLess (ByteArray.mk s1.toArray).toList (ByteArray.mk s2.toArray).toList || (ByteArray.mk s1.toArray).toList == (ByteArray.mk s2.toArray).toList)) := by simp [binOp, Op.stringOp]
  rw [e, ByteArray.toList_eq, ByteArray.toList_eq]
  have := le_not s1 s2
  rw [h] at this
  show (pure (Value.bool (Op.bytesLess s1 s2 || s1 == s2)) : Sem Value).run Tryd.prog W = _
  rw [this]; rfl
theorem FrAt.keptB {B : Nat} {w w' : World} {g : Nat} {id : Int} {lo fa re : Bool} {sz : Int} {a : Option Addr} {len cap : Nat} (h : FrAt w g id lo fa re sz a len cap) (hb : Below B w w') (hg : g < B) : FrAt w' g id lo fa re sz a len cap := by
  have e : ∀ k, w'.cell? ⟨g, k, none⟩ = w.cell? ⟨g, k, none⟩ := fun k => hb.cell (show (⟨g, k, none⟩ : Addr).block < B from hg)
  exact ⟨by rw [e]; exact h.c0, by rw [e]; exact h.c1, by rw [e]; exact h.c2, by rw [e]; exact h.c3, by rw [e]; exact h.c4, by rw [e]; exact h.c5⟩
theorem owns_baseQ {w : World} {base base' : Nat} {e : TypeId} {size : Nat} {v : Value} {n : Nat} {xs : List Value} (h : w.ownsRow base e size v n xs) (hb : base' ≤ base) : w.ownsRow base' e size v n xs := by
  obtain ⟨h1, h2⟩ := h
  refine ⟨h1, ?_⟩
  rcases h2 with h2 | ⟨g, cap, cur, hv, hg, r⟩
  · exact Or.inl h2
  · exact Or.inr ⟨g, cap, cur, hv, Nat.le_trans hb hg, r⟩
/-- slices.Clone of frames, whatever they are -/
theorem clone_any (a : Option Addr) (n cap : Nat) (l : List FrV) (w : World) (hF : IsFrames w a n cap l) (hn : n ≤ 1000) :
    Calls Tryd.prog 20 #[.slice a n cap] w fun e w' => ∃ r, e = .returned r ∧ w'.ownsRow w.heap.size 25 6 r n (frC l) ∧ Below w.heap.size w w' := by
  cases a with
  | none =>
    have h0 := hF.none rfl
    subst h0
    have hl : l = [] := List.eq_nil_of_length_eq_zero hF.len
    subst hl
    refine (clone_nil w cap).mono ?_
    rintro e w' ⟨rfl, rfl⟩
    exact ⟨_, rfl, World.ownsRow_nil _ _ _ _, Below.refl _ _⟩
  | some x =>
    refine (clone_some x n cap l w hF (by omega)).mono ?_
    rintro e w' ⟨g, c, rfl, h1, h2⟩
    exact ⟨_, rfl, h1, h2⟩
theorem frames_of_row {w : World} {base n : Nat} {r : Value} {l : List FrV} (h : w.ownsRow base 25 6 r n (frC l)) (hn : l.length = n) (hy : ∀ v ∈ l, IsBytes w v.a v.len v.cap v.f.dt) : ∃ a cap, r = .slice a n cap ∧ IsFrames w a n cap l := by
  subst hn
  have h0 := h
  rcases h.2 with ⟨h1, h2⟩ | ⟨g, cap, cur, h1, hg, hh, hc, hm, hsz, htk⟩
  · have hl : l = [] := List.eq_nil_of_length_eq_zero h2
    subst hl
    exact ⟨none, 0, h1, rfl, Nat.le_refl _, Nat.zero_le _, fun _ => rfl, (fun x hx => by cases hx), fun i hi => absurd hi (Nat.not_lt_zero _)⟩
  · refine ⟨some ⟨g, 0, none⟩, cap, h1, rfl, hc, hm, (fun e => by cases e), ?_, fun i hi => hy _ (List.getElem_mem hi)⟩
    intro x hx i hi k hk
    cases hx
    exact h0.cells (by rw [h1]; rfl) (i * 6 + k) _ (frC_at l i k hi hk)
set_option maxHeartbeats 2000000 in
set_option maxRecDepth 100000 in
theorem putFrame_any (a : Option Addr) (n cap : Nat) (l : List FrV) (v : FrV) (w : World) (hD : w.cell? ⟨4, 1, none⟩ = some (.int .u8 1)) (hF : IsFrames w a n cap l) (hn : n ≤ 1000) (hY : IsBytes w v.a v.len v.cap v.f.dt) (hE : ∀ u ∈ l, frE u.f = 0) (hEv : frE v.f = 0) :
    Calls Tryd.prog 18 #[.slice a n cap, frameV v.f.id v.f.lo v.f.fa v.f.re v.f.sz v.a v.len v.cap] w fun e w' => ∃ r c, e = .returned (.slice r (n + 1) c) ∧ IsFrames w' r (n + 1) c (putV l v) ∧ Below w.heap.size w w' := by
  have hlen := hF.len
  have hid := frE_ok hEv
  have hmx : n ≤ maxLen := Nat.le_trans hF.le hF.max
  obtain ⟨⟨id, lo, fa, re, sz, dt⟩, va, vl, vc⟩ := v
  simp only at hid hY ⊢
  have hbx := below_box w id lo fa re sz va vl vc
  have hKx := FrAt.box w id lo fa re sz va vl vc
  have hn1 := fun W (hW : Below w.heap.size w W) => nameOf_any ⟨id, lo, fa, re, sz, dt⟩ va vl vc W (cell_kept hW hD) hid.1 hid.2.1
  have hpv : putV l ⟨⟨id, lo, fa, re, sz, dt⟩, va, vl, vc⟩ = insAt l (atE (nameL ⟨id, lo, fa, re, sz, dt⟩) ((l.map (·.f)).map nameL) n) ⟨⟨id, lo, fa, re, sz, dt⟩, va, vl, vc⟩ := by unfold putV atF; rw [List.length_map, hlen]
  rw [hpv]
  obtain ⟨nm, hnm⟩ : ∃ nm, nm = nameL ⟨id, lo, fa, re, sz, dt⟩ := ⟨_, rfl⟩
  rw [← hnm] at hn1 ⊢
  have HN1 := Hid.mk hn1
  have HKX := Hid.mk hKx
  have HBX := Hid.mk hbx
  have HF := Hid.mk hF
  have HD := Hid.mk hD
  have HY := Hid.mk hY
  have HE := Hid.mk hE
  have HLEN := Hid.mk hlen
  unfold frameV at HN1 ⊢
  simp only at HN1
  unfold frameC at HKX HBX
  clear hbx hKx hn1 hF hD hid hpv hnm hY hE hEv hlen
  obtain ⟨NS, hNS⟩ : ∃ NS, NS = (l.map (·.f)).map nameL := ⟨_, rfl⟩
  rw [← hNS]
  have HNS := Hid.mk hNS
  clear hNS
  go_enter Tryd.func18, Tryd.ntmps18
  go_wp2_with fail
  go_loopw [5, 10] (fun at_ i wr => ∃ (k : Nat), k ≤ n ∧ i = .int .i64 k ∧ at_ = .int .i64 (atE nm NS k) ∧ Hid (FrAt wr w.heap.size id lo fa re sz va vl vc) ∧ Hid (Below w.heap.size w wr)) (fun _ i _ => n - (intOf i).toNat)
  case atStart => exact ⟨0, Nat.zero_le _, rfl, rfl, HKX, HBX⟩
  case round =>
    obtain ⟨k, hk, rfl, rfl, HK, HB⟩ := hrel
    by_cases hlt : k < n
    · have hlt' : (k : Int) < (n : Int) := by omega
      have hkl : k < l.length := by rw [HLEN.out]; exact hlt
      cases a with
      | none => exact absurd (HF.out.none rfl) (by omega)
      | some x =>
        have cc := fun (j : Nat) (hj : j < 6) => cell_kept HB.out (HF.out.cell x rfl k hkl j hj)
        have hE1 := HE.out _ (List.getElem_mem hkl)
        have hnk : NS.getD k [] = nameL l[k].f := by rw [HNS.out]; simp [List.getD, hkl]
        generalize l[k] = u at *
        obtain ⟨⟨id', lo', fa', re', sz', dt'⟩, ua, ul, uc⟩ := u
        simp only at hE1 hnk
        have hid' := frE_ok hE1
        have hn2 := fun W (hW : Below w.heap.size w W) => nameOf_any ⟨id', lo', fa', re', sz', dt'⟩ ua ul uc W (cell_kept hW HD.out) hid'.1 hid'.2.1
        obtain ⟨pn, hpn⟩ : ∃ pn, pn = nameL ⟨id', lo', fa', re', sz', dt'⟩ := ⟨_, rfl⟩
        rw [← hpn] at hn2 hnk
        have hat : atE nm NS (k + 1) = if Op.bytesLess nm pn = true then atE nm NS k else k + 1 := by
          show (if Op.bytesLess nm (NS.getD k []) = true then _ else _) = _
          rw [hnk]
        have hle := atE_le nm NS k
        have c0 := cc 0 (by omega)
        have c1 := cc 1 (by omega)
        have c2 := cc 2 (by omega)
        have c3 := cc 3 (by omega)
        have c4 := cc 4 (by omega)
        have c5 := cc 5 (by omega)
        rw [add_nextQ] at c1 c2 c3 c4 c5
        rw [Nat.add_zero] at c0
        simp only [FrV.cells, List.getElem_cons_zero, List.getElem_cons_succ, Nat.reduceAdd] at c0 c1 c2 c3 c4 c5
        have hb2 := below_box wr id' lo' fa' re' sz' ua ul uc
        have HK2 := Hid.mk (FrAt.box wr id' lo' fa' re' sz' ua ul uc)
        have HK1 := Hid.mk (HK.out.kept hb2)
        have HB2 := Hid.mk (bl2 HB.out hb2)
        have HN2 := Hid.mk hn2
        have HAT := Hid.mk hat
        unfold frameV at HN2
        simp only at HN2
        unfold frameC at HK2 HK1 HB2
        clear cc hE1 hnk hid' hn2 hpn hat hb2
        go_wp2_with fail
        generalize hw2 : wr.alloc (Obj.cells #[.int .i64 id', .bool lo', .bool fa', .bool re', .int .i64 sz', .slice ua ul uc] 25) = w2 at *
        clear hw2 c0 c1 c2 c3 c4 c5
        have rf0 := fun d os => (HK1.out.regrownQ d os).c0
        have rf1 := fun d os => (HK1.out.regrownQ d os).c1
        have rf2 := fun d os => (HK1.out.regrownQ d os).c2
        have rf3 := fun d os => (HK1.out.regrownQ d os).c3
        have rf4 := fun d os => (HK1.out.regrownQ d os).c4
        have rf5 := fun d os => (HK1.out.regrownQ d os).c5
        have rg0 := fun d os => (HK2.out.regrownQ d os).c0
        have rg1 := fun d os => (HK2.out.regrownQ d os).c1
        have rg2 := fun d os => (HK2.out.regrownQ d os).c2
        have rg3 := fun d os => (HK2.out.regrownQ d os).c3
        have rg4 := fun d os => (HK2.out.regrownQ d os).c4
        have rg5 := fun d os => (HK2.out.regrownQ d os).c5
        have HBR := Hid.mk (fun d os => bl2 HB2.out (below_regrown w2 d os))
        obtain ⟨q, hq⟩ : ∃ q, Op.bytesLess nm pn = q := ⟨_, rfl⟩
        have hlq := fun W => leqQ pn nm q hq W
        rw [hq] at HAT
        clear hq
        refine wp_region_quiet_below (by kernel_rfl) (by kernel_rfl) ?_
        repeat (go_big_quiet_step (first
          | (go_at_call 19; with_reducible_and_instances exact Calls.regrown_of (HN1.out _ (HBR.out _ _)))
          | (go_at_call 19; with_reducible_and_instances exact Calls.regrown_of (HN2.out _ (HBR.out _ _)))))
        refine wpQuiet_nil ?_
        intro _ hw'
        obtain ⟨⟨dq, osq⟩, hw''⟩ := hw'
        have hbq := below_regrown w2 dq osq
        rw [hw'']
        generalize grow (redrawn w2 dq) osq = w4 at *
        have HB4 := Hid.mk (bl2 HB2.out hbq)
        have HK4 := Hid.mk (HK1.out.kept hbq)
        clear hw'' hbq rf0 rf1 rf2 rf3 rf4 rf5 rg0 rg1 rg2 rg3 rg4 rg5 HBR hlq
        cases q
        · rw [if_neg (by decide)] at HAT
          go_wp2_with fail
          go_roundw
          case rel => exact ⟨k + 1, by omega, by go_num, (by first | (rw [HAT.out]; done) | (rw [HAT.out]; go_num)), HK4, HB4⟩
          case measure => simp [intOf]; omega
        · rw [if_pos rfl] at HAT
          go_wp2_with fail
          go_roundw
          case rel => exact ⟨k + 1, by omega, by go_num, (by first | (rw [HAT.out]; done) | (rw [HAT.out]; go_num) | (rw [HAT.out]; rfl)), HK4, HB4⟩
          case measure => simp [intOf]; omega
    · obtain rfl : k = n := by omega
      obtain ⟨A, hA⟩ : ∃ A, A = atE nm NS k := ⟨_, rfl⟩
      have hAk : A ≤ k := by rw [hA]; exact atE_le _ _ _
      have HAE := Hid.mk hA
      rw [← hA]
      clear hA
      have HCL := Hid.mk (fun W (hW : Below w.heap.size w W) => clone_any a k cap l W (HF.out.kept hW) hn)
      have HIN := Hid.mk (fun W sv vb base hO hb hv hvb => insert_any sv k A vb base l ⟨⟨id, lo, fa, re, sz, dt⟩, va, vl, vc⟩ W HLEN.out hn hAk hO hb hv hvb)
      have HBd := Hid.mk (HB.out.trans (show Below w.heap.size wr wr.drew from ⟨rfl, rfl, rfl, Nat.le_refl _, fun _ _ => rfl⟩))
      have HFIN := Hid.mk (show ∀ (W : World) r, W.ownsRow w.heap.size 25 6 r (k + 1) (frC (insAt l A ⟨⟨id, lo, fa, re, sz, dt⟩, va, vl, vc⟩)) → Below w.heap.size w W → ∃ r' c, Ending.returned r = .returned (.slice r' (k + 1) c) ∧ IsFrames W r' (k + 1) c (insAt l (atE nm NS k) ⟨⟨id, lo, fa, re, sz, dt⟩, va, vl, vc⟩) ∧ Below w.heap.size w W from fun W r hO hb => by
        rw [HAE.out] at hO
        obtain ⟨r', c, rfl, h1⟩ := frames_of_row hO (by rw [insAt_len, HLEN.out]) (fun u hu => by
          rcases (insAt_mem _ _ _ _).1 hu with rfl | hu
          · exact isBytes_below HY.out hb
          · exact isBytes_below (HF.out.all u hu) hb)
        exact ⟨r', c, rfl, h1, hb⟩)
      go_wp2_with fail
      refine wp_region_held_drew (S := fun W => FrAt W w.heap.size id lo fa re sz va vl vc) (by kernel_rfl) (HK.out.kept ⟨rfl, rfl, rfl, Nat.le_refl _, fun _ _ => rfl⟩) (fun hHeld => ?_)
      refine wpAnyH_take (i := 0) (v := .slice a k cap) rfl (by kernel_rfl) (by kernel_rfl) (by kernel_rfl) (fun _ _ _ h => h) (Or.inl ⟨by rfl, fun _ _ => rfl⟩) hHeld ?_
      simp only [List.getElem_toArray, List.getElem_cons_zero, Act.put, List.setIfInBounds_toArray, List.set_cons_zero, List.set_cons_succ]
      refine wpAnyH_take (i := 2) (v := .int .i64 A) rfl (by kernel_rfl) (by kernel_rfl) (by kernel_rfl) (fun _ _ _ h => h) (Or.inl ⟨by rfl, fun _ _ => rfl⟩) hHeld ?_
      simp only [List.getElem_toArray, List.getElem_cons_zero, List.getElem_cons_succ, Act.put, List.setIfInBounds_toArray, List.set_cons_zero, List.set_cons_succ]
      refine wpAnyH_take (i := 3) rfl (by kernel_rfl) (by kernel_rfl) (by kernel_rfl) (fun _ _ _ h => h) (yieldsIf_load_mid (by rfl) _ _ rfl _ _ rfl _ _ (fun W hW => range_fr hW) Tryd.underlying25 rfl fr_info) hHeld ?_
      simp only [List.getElem_toArray, List.getElem_cons_zero, List.getElem_cons_succ, Act.put, List.setIfInBounds_toArray, List.set_cons_zero, List.set_cons_succ]
      refine wpAnyH_ready (rs := [1, 4]) (by kernel_rfl) (by simp) ?_
      refine AllReadyH.cons rfl (fun K hK => ?_) (AllReadyH.cons rfl (fun K hK => ?_) AllReadyH.nil)
      · rw [if_pos (by rfl)]
        go_wp2_with fail
        refine (HCL.out _ HBd.out).mono ?_
        rintro e w1 ⟨r1, rfl, ho1, hb1⟩
        refine hK.out _ _ (hHeld.kept hb1) (fun hHeld1 => ?_)
        clear hK K
        refine wpAnyH_ready (rs := [4]) (by kernel_rfl) (by simp) ?_
        refine AllReadyH.cons rfl (fun K hK => ?_) AllReadyH.nil
        rw [if_pos (by rfl)]
        go_wp2_with fail
        have hba : Below w1.heap.size w1 (w1.alloc (Obj.cells #[.int .i64 id, .bool lo, .bool fa, .bool re, .int .i64 sz, .slice va vl vc] 25)) := (Below.refl _ _).alloc (Nat.le_refl _) _
        refine hK.out _ _ (hHeld1.kept hba) (fun hHeld2 => ?_)
        clear hK K
        refine wpAnyH_ready (rs := [5]) (by kernel_rfl) (by simp) ?_
        refine AllReadyH.cons rfl (fun K hK => ?_) AllReadyH.nil
        rw [if_pos (by rfl)]
        go_wp2_with fail
        refine (HIN.out _ r1 w1.heap.size wr.drew.heap.size (ho1.alloc _) (Nat.le_trans hb1.size hba.size) (heap_alloc_new w1 _) (fun q hq e => by have := own_lt ho1 q hq; omega)).mono ?_
        rintro e w3 ⟨r3, rfl, ho3, hb3⟩
        have hbase : w.heap.size < wr.drew.heap.size := block_lt_of_cell HK.out.c0
        refine hK.out _ _ (FrAt.keptB hHeld2 hb3 hbase) (fun hHeld3 => ?_)
        clear hK K
        refine wpAnyH_take (i := 6) (v := r3) rfl (by kernel_rfl) (by kernel_rfl) (by kernel_rfl) (fun _ _ _ h => h) (Or.inl ⟨by rfl, fun _ _ => rfl⟩) hHeld3 ?_
        simp only [List.getElem_toArray, List.getElem_cons_zero, List.getElem_cons_succ, Act.put, List.setIfInBounds_toArray, List.set_cons_zero, List.set_cons_succ]
        refine wpAnyH_done (by kernel_rfl) ?_ _
        have hfin := HFIN.out w3 r3 (owns_baseQ ho3 (Nat.le_of_lt hbase)) ((bl2 (bl2 HBd.out hb1) hba).trans (hb3.mono (Nat.le_of_lt hbase)))
        go_wp2_with fail
        go_ret
        exact hfin
      · rw [if_pos (by rfl)]
        go_wp2_with fail
        have hba : Below wr.heap.size wr (wr.alloc (Obj.cells #[.int .i64 id, .bool lo, .bool fa, .bool re, .int .i64 sz, .slice va vl vc] 25)).drew := ((Below.refl _ _).alloc (Nat.le_refl _) _).trans ⟨rfl, rfl, rfl, Nat.le_refl _, fun _ _ => rfl⟩
        have HB2 := Hid.mk (bl2 HB.out hba)
        have hlt2 : wr.heap.size < (wr.alloc (Obj.cells #[.int .i64 id, .bool lo, .bool fa, .bool re, .int .i64 sz, .slice va vl vc] 25)).drew.heap.size := by simp
        refine hK.out _ _ (HK.out.kept hba) (fun hHeld1 => ?_)
        clear hK K
        refine wpAnyH_ready (rs := [1]) (by kernel_rfl) (by simp) ?_
        refine AllReadyH.cons rfl (fun K hK => ?_) AllReadyH.nil
        rw [if_pos (by rfl)]
        go_wp2_with fail
        refine (HCL.out _ HB2.out).mono ?_
        rintro e w1 ⟨r1, rfl, ho1, hb1⟩
        refine hK.out _ _ (hHeld1.kept hb1) (fun hHeld2 => ?_)
        clear hK K
        refine wpAnyH_ready (rs := [5]) (by kernel_rfl) (by simp) ?_
        refine AllReadyH.cons rfl (fun K hK => ?_) AllReadyH.nil
        rw [if_pos (by rfl)]
        go_wp2_with fail
        refine (HIN.out _ r1 wr.heap.size (wr.alloc (Obj.cells #[.int .i64 id, .bool lo, .bool fa, .bool re, .int .i64 sz, .slice va vl vc] 25)).drew.heap.size ho1 hb1.size ((hb1.block wr.heap.size hlt2).trans (heap_alloc_new wr _)) (fun q hq e => by have := (ho1.lt q hq).1; omega)).mono ?_
        rintro e w3 ⟨r3, rfl, ho3, hb3⟩
        have hbase : w.heap.size < (wr.alloc (Obj.cells #[.int .i64 id, .bool lo, .bool fa, .bool re, .int .i64 sz, .slice va vl vc] 25)).drew.heap.size := Nat.lt_of_lt_of_le (block_lt_of_cell HK.out.c0) (Nat.le_of_lt hlt2)
        refine hK.out _ _ (FrAt.keptB hHeld2 hb3 hbase) (fun hHeld3 => ?_)
        clear hK K
        refine wpAnyH_take (i := 6) (v := r3) rfl (by kernel_rfl) (by kernel_rfl) (by kernel_rfl) (fun _ _ _ h => h) (Or.inl ⟨by rfl, fun _ _ => rfl⟩) hHeld3 ?_
        simp only [List.getElem_toArray, List.getElem_cons_zero, List.getElem_cons_succ, Act.put, List.setIfInBounds_toArray, List.set_cons_zero, List.set_cons_succ]
        refine wpAnyH_done (by kernel_rfl) ?_ _
        have hfin := HFIN.out w3 r3 (owns_baseQ ho3 (Nat.le_of_lt hbase)) ((bl2 HB2.out hb1).trans (hb3.mono (Nat.le_of_lt hbase)))
        go_wp2_with fail
        go_ret
        exact hfin
end Bw
end Go.Proofs.YthdffdobkampaaaDoor

/- What slices.Equal answers of two slices that hold the same bytes: true. -/
namespace Go.Proofs.YthdffdobkampaaaDoor
open Go.ChangeShapes Go.WideShapes Go.ChangeAt Go.RowKit
namespace Bw
open Bm

def HasBytes (w : World) (a : Option Addr) (n : Nat) (l : List UInt8) : Prop :=
  (a = none → n = 0) ∧ ∀ x, a = some x → ∀ i, i < n → w.cell? (x.add i) = some (.int .u8 (l.getD i 0).toNat)

set_option maxHeartbeats 1000000 in
theorem equalB_true (w : World) (a b : Option Addr) (n c d : Nat) (l : List UInt8) (hn : n ≤ maxLen) (ha : HasBytes w a n l) (hb : HasBytes w b n l) :
    Calls Tryd.prog 33 #[.slice a n c, .slice b n d] w fun e w' => e = .returned (.bool true) ∧ Below w.heap.size w w' := by
  have HA := Hid.mk ha
  have HB := Hid.mk hb
  unfold maxLen at hn
  clear ha hb
  go_enter Tryd.func33, Tryd.ntmps33
  go_wp2
  go_loopw [13] (fun i w' => ∃ k : Nat, k ≤ n ∧ i = .int .i64 k ∧ ∃ m, w' = w.drewN m) (fun i _ => n - (intOf i).toNat)
  case atStart => exact ⟨0, Nat.zero_le _, rfl, 0, rfl⟩
  case round =>
    obtain ⟨k, hk, rfl, m, rfl⟩ := hrel
    by_cases hlt : k < n
    · cases a with
      | none => exact absurd (HA.out.1 rfl) (by omega)
      | some x =>
        cases b with
        | none => exact absurd (HB.out.1 rfl) (by omega)
        | some y =>
          have g1 := HA.out.2 x rfl k hlt
          have g2 := HB.out.2 y rfl k hlt
          have hlt' : (k : Int) < (n : Int) := by omega
          go_wp2
          go_quiet (fail)
          go_wp2
          go_roundw
          case rel => exact ⟨k + 1, by omega, by go_num, _, rfl⟩
          case measure => simp [intOf]; omega
    · go_wp2
      go_ret
      exact ⟨rfl, ⟨rfl, rfl, rfl, Nat.le_refl _, fun _ _ => rfl⟩⟩
end Bw
end Go.Proofs.YthdffdobkampaaaDoor

/- What the document's own SameFrame answers of frames that are alike. -/
namespace Go.Proofs.YthdffdobkampaaaDoor
open Go.ChangeShapes Go.WideShapes Go.ChangeAt Go.RowKit
namespace Bw
open Bm Cm

set_option maxHeartbeats 8000000 in
theorem sameFrame_true (f : Fr) (a1 a2 : Option Addr) (n1 c1 n2 c2 : Nat) (w : World) (h1 : IsBytes w a1 n1 c1 f.dt) (h2 : IsBytes w a2 n2 c2 f.dt) :
    Calls Tryd.prog 16 #[frameV f.id f.lo f.fa f.re f.sz a1 n1 c1, frameV f.id f.lo f.fa f.re f.sz a2 n2 c2] w fun e w' => e = .returned (.bool true) ∧ Below w.heap.size w w' := by
  obtain ⟨id, lo, fa, re, sz, dt⟩ := f
  simp only at h1 h2 ⊢
  have hB1 := below_box w id lo fa re sz a1 n1 c1
  have hB2 := below_box (w.alloc (frameC id lo fa re sz a1 n1 c1)) id lo fa re sz a2 n2 c2
  have hB := bl2 hB1 hB2
  have hn : n1 = n2 := h1.1.symm.trans h2.1
  subst hn
  have hmx : n1 ≤ maxLen := by have := h1.2.1; have := h1.2.2.1; omega
  have hY1 := isBytes_below h1 hB
  have hY2 := isBytes_below h2 hB
  have hbe := equalB_true _ a1 a2 n1 c1 c2 dt hmx ⟨hY1.2.2.2.1, hY1.2.2.2.2⟩ ⟨hY2.2.2.2.1, hY2.2.2.2.2⟩
  have HBE := Hid.mk hbe
  have HB := Hid.mk hB
  unfold frameC at HBE HB
  unfold frameV
  clear h1 h2 hB1 hB2 hB hbe hY1 hY2 hmx
  go_enter Tryd.func16, Tryd.ntmps16
  go_wp2_with fail
  refine HBE.out.mono ?_
  rintro e w1 ⟨rfl, hb1⟩
  have hbel := bl2 HB.out hb1
  clear hb1
  go_wp2_with fail
  go_ret
  exact ⟨rfl, hbel⟩
end Bw
end Go.Proofs.YthdffdobkampaaaDoor

/- What the document's own SameFrames answers of frames that are alike. -/
namespace Go.Proofs.YthdffdobkampaaaDoor
open Go.ChangeShapes Go.WideShapes Go.ChangeAt Go.RowKit
namespace Bw
open Bm Cm
set_option maxHeartbeats 1000000 in
set_option maxRecDepth 100000 in
theorem equalFr_true (a : Option Addr) (n c : Nat) (l : List FrV) (a' : Option Addr) (c' : Nat) (l' : List FrV) (w : World) (hF : IsFrames w a n c l) (hF' : IsFrames w a' n c' l') (he : l.map (·.f) = l'.map (·.f)) :
    Calls Tryd.prog 32 #[.slice a n c, .slice a' n c', .func (.func 16) #[] #[]] w fun e w' => e = .returned (.bool true) ∧ Below w.heap.size w w' := by
  have hmx : n ≤ 9223372036854775807 := by have := Nat.le_trans hF.le hF.max; unfold maxLen at this; omega
  have HF := Hid.mk hF
  have HF' := Hid.mk hF'
  have HE := Hid.mk he
  clear hF hF' he
  go_enter Tryd.func32, Tryd.ntmps32
  go_wp2_with fail
  go_loopw [17] (fun i wr => ∃ (k : Nat), k ≤ n ∧ i = .int .i64 k ∧ Hid (Below w.heap.size w wr)) (fun i _ => n - (intOf i).toNat)
  case atStart => exact ⟨0, Nat.zero_le _, rfl, Hid.mk (Below.refl _ _)⟩
  case round =>
    obtain ⟨k, hk, rfl, HB⟩ := hrel
    by_cases hlt : k < n
    · have hlt' : (k : Int) < (n : Int) := by omega
      have hkl : k < l.length := by rw [HF.out.len]; exact hlt
      have hkl' : k < l'.length := by rw [HF'.out.len]; exact hlt
      cases a with
      | none => exact absurd (HF.out.none rfl) (by omega)
      | some x =>
        cases a' with
        | none => exact absurd (HF'.out.none rfl) (by omega)
        | some y =>
          have cc := fun (j : Nat) (hj : j < 6) => cell_kept HB.out (HF.out.cell x rfl k hkl j hj)
          have dd := fun (j : Nat) (hj : j < 6) => cell_kept HB.out (HF'.out.cell y rfl k hkl' j hj)
          have hby := isBytes_below (HF.out.bytes k hkl) (show Below w.heap.size w wr from HB.out)
          have hby' := isBytes_below (HF'.out.bytes k hkl') (show Below w.heap.size w wr from HB.out)
          have hff : l[k].f = l'[k].f := by
            have h1 : (l.map (·.f))[k]? = some l[k].f := by rw [List.getElem?_map, List.getElem?_eq_getElem hkl]; rfl
            have h2 : (l'.map (·.f))[k]? = some l'[k].f := by rw [List.getElem?_map, List.getElem?_eq_getElem hkl']; rfl
            rw [HE.out, h2] at h1
            exact (Option.some.inj h1).symm
          generalize l[k] = v at *
          generalize l'[k] = u at *
          obtain ⟨⟨id, lo, fa, re, sz, dt⟩, va, vl, vc⟩ := v
          obtain ⟨f', ua, ul, uc⟩ := u
          simp only at hff
          subst hff
          simp only at hby hby'
          have c0 := cc 0 (by omega)
          have c1 := cc 1 (by omega)
          have c2 := cc 2 (by omega)
          have c3 := cc 3 (by omega)
          have c4 := cc 4 (by omega)
          have c5 := cc 5 (by omega)
          rw [add_nextQ] at c1 c2 c3 c4 c5
          rw [Nat.add_zero] at c0
          simp only [FrV.cells, List.getElem_cons_zero, List.getElem_cons_succ, Nat.reduceAdd] at c0 c1 c2 c3 c4 c5
          have d0 := dd 0 (by omega)
          have d1 := dd 1 (by omega)
          have d2 := dd 2 (by omega)
          have d3 := dd 3 (by omega)
          have d4 := dd 4 (by omega)
          have d5 := dd 5 (by omega)
          rw [add_nextQ] at d1 d2 d3 d4 d5
          rw [Nat.add_zero] at d0
          simp only [FrV.cells, List.getElem_cons_zero, List.getElem_cons_succ, Nat.reduceAdd] at d0 d1 d2 d3 d4 d5
          have hb1 := below_box wr id lo fa re sz va vl vc
          have hb2 := below_box (wr.alloc (frameC id lo fa re sz va vl vc)) id lo fa re sz ua ul uc
          have hb12 := bl2 hb1 hb2
          have hsm := sameFrame_true ⟨id, lo, fa, re, sz, dt⟩ va ua vl vc ul uc _ (isBytes_below hby hb12) (isBytes_below hby' hb12)
          have HSM := Hid.mk hsm
          have HB2 := Hid.mk (bl2 HB.out hb12)
          have e0 := cell_kept hb1 d0
          have e1 := cell_kept hb1 d1
          have e2 := cell_kept hb1 d2
          have e3 := cell_kept hb1 d3
          have e4 := cell_kept hb1 d4
          have e5 := cell_kept hb1 d5
          unfold frameC at HSM HB2 e0 e1 e2 e3 e4 e5
          unfold frameV at HSM
          simp only at HSM
          clear cc dd hby hby' hb1 hb2 hb12 hsm d0 d1 d2 d3 d4 d5
          go_wp2_with fail
          refine HSM.out.mono ?_
          rintro e w3 ⟨rfl, hb3⟩
          have HB3 := Hid.mk (bl2 HB2.out hb3)
          clear hb3 c0 c1 c2 c3 c4 c5 e0 e1 e2 e3 e4 e5
          go_wp2_with fail
          go_roundw
          case rel => exact ⟨k + 1, by omega, by go_num, HB3⟩
          case measure => simp [intOf]; omega
    · obtain rfl : k = n := by omega
      go_wp2_with fail
      go_ret
      exact ⟨rfl, HB.out⟩
set_option maxHeartbeats 1000000 in
theorem sameFrs_true (a : Option Addr) (n c : Nat) (l : List FrV) (a' : Option Addr) (c' : Nat) (l' : List FrV) (w : World) (hF : IsFrames w a n c l) (hF' : IsFrames w a' n c' l') (he : l.map (·.f) = l'.map (·.f)) :
    Calls Tryd.prog 14 #[.slice a n c, .slice a' n c'] w fun e w' => e = .returned (.bool true) ∧ Below w.heap.size w w' := by
  have H1 := Hid.mk (equalFr_true a n c l a' c' l' w hF hF' he)
  clear hF hF' he
  go_enter Tryd.func14, Tryd.ntmps14
  go_wp2_with fail
  refine H1.out.mono ?_
  rintro e w1 ⟨rfl, hb1⟩
  go_wp2_with fail
  go_ret
  exact ⟨rfl, hb1⟩
end Bw
end Go.Proofs.YthdffdobkampaaaDoor

/- What the laws' ownFrames answers. -/
namespace Go.Proofs.YthdffdobkampaaaDoor
open Go.ChangeShapes Go.WideShapes Go.ChangeAt Go.RowKit
namespace Bw
open Bm Cm
set_option maxHeartbeats 2000000 in
set_option maxRecDepth 100000 in
theorem ownFrames_any (a : Option Addr) (n c : Nat) (l : List FrV) (w : World) (hF : IsFrames w a n c l) (hn : n * 48 ≤ 140737488351232) (hd : ∀ v ∈ l, v.len ≤ 140737488351232) :
    Calls Tryd.prog 7 #[.slice a n c] w fun e w' => ∃ r l', e = .returned r ∧ l'.length = n ∧ l'.map (·.f) = l.map (·.f) ∧ OwnFrs w' w.heap.size r l' ∧ Below w.heap.size w w' := by
  obtain ⟨i0, hi, hz0, hz1, hz2⟩ := info_parts info_fr
  have HF := Hid.mk hF
  have HD := Hid.mk hd
  have HLEN := Hid.mk hF.len
  clear hF hd
  go_enter Tryd.func7, Tryd.ntmps7
  go_wp2_with fail
  go_loopw [3, 8] (fun r i wr => ∃ (k : Nat) (l' : List FrV), k ≤ n ∧ i = .int .i64 k ∧ Hid (l'.length = k ∧ l'.map (·.f) = (l.take k).map (·.f)) ∧ Hid (OwnFrs wr w.heap.size r l') ∧ Hid (Below w.heap.size w wr)) (fun _ i _ => n - (intOf i).toNat)
  case atStart => exact ⟨0, [], Nat.zero_le _, rfl, Hid.mk ⟨rfl, rfl⟩, Hid.mk (OwnFrs.nil _ _), Hid.mk (Below.refl _ _)⟩
  case round =>
    obtain ⟨k, l', hk, rfl, HM, HO, HB⟩ := hrel
    by_cases hlt : k < n
    · have hlt' : (k : Int) < (n : Int) := by omega
      have hkl : k < l.length := by rw [HLEN.out]; exact hlt
      cases a with
      | none => exact absurd (HF.out.none rfl) (by omega)
      | some x =>
        have cc := fun (j : Nat) (hj : j < 6) => cell_kept HB.out (HF.out.cell x rfl k hkl j hj)
        have hby := isBytes_below (HF.out.bytes k hkl) (show Below w.heap.size w wr from HB.out)
        have hdl := HD.out _ (List.getElem_mem hkl)
        have htk : (l.take (k + 1)).map (·.f) = (l.take k).map (·.f) ++ [l[k].f] := by rw [List.take_succ_eq_append_getElem hkl, List.map_append]; rfl
        generalize l[k] = v at *
        obtain ⟨⟨id, lo, fa, re, sz, dt⟩, va, vl, vc⟩ := v
        simp only at hby hdl htk
        have c0 := cc 0 (by omega)
        have c1 := cc 1 (by omega)
        have c2 := cc 2 (by omega)
        have c3 := cc 3 (by omega)
        have c4 := cc 4 (by omega)
        have c5 := cc 5 (by omega)
        rw [add_nextQ] at c1 c2 c3 c4 c5
        rw [Nat.add_zero] at c0
        simp only [FrV.cells, List.getElem_cons_zero, List.getElem_cons_succ, Nat.reduceAdd] at c0 c1 c2 c3 c4 c5
        have hbx := below_box wr id lo fa re sz va vl vc
        have how := own_blk ⟨id, lo, fa, re, sz, dt⟩ va vl vc _ (isBytes_below hby hbx) hdl
        have HOW := Hid.mk how
        have HBX := Hid.mk hbx
        have HTK := Hid.mk htk
        have HLT := Hid.mk (own_lt HO.out.row)
        have HML := Hid.mk HM.out.1
        have hsz : (wr.alloc (frameC id lo fa re sz va vl vc)).heap.size = wr.heap.size + 1 := by simp
        have HSZ := Hid.mk hsz
        have HSW := Hid.mk HB.out.size
        unfold frameC at HOW HBX HSZ
        unfold frameV at HOW
        simp only at HOW
        clear cc hby hdl htk hbx how hsz
        go_wp2_with fail
        refine HOW.out.mono ?_
        rintro e w2 ⟨a2, cq, rfl, hY2, hblk2, hb2⟩
        have hbr2 := bl2 HBX.out hb2
        rw [HSZ.out] at hblk2
        have HS2 := Hid.mk hbr2.size
        have HY2 := Hid.mk hY2
        have HBL := Hid.mk hblk2
        have HO2 := Hid.mk (HO.out.kept hbr2)
        have HB2 := Hid.mk (bl2 HB.out hbr2)
        clear hY2 hblk2 hb2 hbr2 c0 c1 c2 c3 c4 c5
        go_wp2_with (at_builtin; refine wpList_append_two rfl (.tmp 12) (.tmp 15) 22 rfl w.heap.size 25 i0 (.agg #[.int .i64 0, .bool false, .bool false, .bool false, .int .i64 0, .slice none 0 0]) 6 48 Tryd.underlying22 hi hz0 hz1 hz2 rfl (by decide) _ _ _ rfl (HO2.out.row.alloc _) ⟨w2.heap.size, 0, none⟩ 1 1 [.int .i64 id, .bool lo, .bool fa, .bool re, .int .i64 sz, .slice a2 vl cq] rfl rfl (new_cells rfl _ _) (by intro u hu; simp at hu; rcases hu with rfl | rfl | rfl | rfl | rfl | rfl <;> rfl) (by decide) (by have := HML.out; unfold maxLen; omega) (by have := HML.out; omega) (by have := HB2.out.size; simp; omega) ?_; intro v3 w3 hown3 hgrow3 hblk3)
        have hb4 : Below w2.heap.size w2 (w2.alloc (.cells #[.int .i64 id, .bool lo, .bool fa, .bool re, .int .i64 sz, .slice a2 vl cq] 25)) := (Below.refl _ _).alloc (Nat.le_refl _) _
        have hO4 := (HO2.out.kept hb4).add (v := ⟨⟨id, lo, fa, re, sz, dt⟩, a2, vl, cq⟩) (isBytes_below HY2.out hb4) (by intro x hx e; have := HBL.out x hx; have := HLT.out _ e; omega) (by intro x hx; have := HBL.out x hx; have := HSW.out; omega) hown3 hgrow3 hblk3
        have hB5 := Below.grown (bl2 HB2.out hb4) hgrow3 (by have := HB2.out.size; simp; omega) (fun q hq => (HO2.out.row.lt q hq).1)
        clear hown3 hgrow3 hblk3 hb4
        go_wp2_with fail
        go_roundw
        case rel => exact ⟨k + 1, l' ++ [⟨⟨id, lo, fa, re, sz, dt⟩, a2, vl, cq⟩], by omega, by go_num, Hid.mk ⟨by rw [List.length_append, HML.out]; rfl, by rw [List.map_append, HM.out.2, HTK.out]; rfl⟩, Hid.mk hO4, Hid.mk hB5⟩
        case measure => simp [intOf]; omega
    · obtain rfl : k = n := by omega
      go_wp2_with fail
      go_ret
      have hfe : l'.map (·.f) = l.map (·.f) := by rw [HM.out.2, List.take_of_length_le (by rw [HLEN.out]; exact Nat.le_refl _)]
      exact ⟨_, rfl, l', HM.out.1, hfe, HO.out, HB.out⟩
end Bw
end Go.Proofs.YthdffdobkampaaaDoor

/- What queue.Renew answers. -/
namespace Go.Proofs.YthdffdobkampaaaDoor
open Go.ChangeShapes Go.WideShapes Go.ChangeAt Go.RowKit
namespace Bw
open Bm Cm
theorem padA_put (l : List FrV) (k : Nat) (v : FrV) (h : k < l.length) : (padA l l.length).set k (entOf v) = (l.set k v).map entOf ++ List.replicate (32 - l.length) zE := by
  rw [padA_all, List.set_append_left _ _ (by simpa using h), List.map_set]
set_option maxHeartbeats 1000000 in
set_option maxRecDepth 100000 in
theorem renew_bad (a : Option Addr) (n cap : Nat) (l : List FrV) (v : FrV) (w : World) (hS : SizesAt w) (hF : IsFrames w a n cap l) (hY : IsBytes w v.a v.len v.cap v.f.dt) (hq : leE l v.f ≠ 0) :
    Calls Tryd.prog 9 #[.slice a n cap, frameV v.f.id v.f.lo v.f.fa v.f.re v.f.sz v.a v.len v.cap] w fun e w' => e = .returned (.tuple #[.slice none 0 0, .int .i64 (leE l v.f)]) ∧ Below w.heap.size w w' := by
  have hb0 := below_box w v.f.id v.f.lo v.f.fa v.f.re v.f.sz v.a v.len v.cap
  have h1 := le_any a n cap l v _ (hS.kept hb0) (hF.kept hb0) (isBytes_below hY hb0)
  have H1 := Hid.mk h1
  have KB := Hid.mk hb0
  have HFL := Hid.mk hF
  have HYV := Hid.mk hY
  unfold frameV at H1 ⊢
  unfold frameC at H1 KB
  clear hb0 h1 hS hF hY
  have hne : (leE l v.f != 0) = true := by simpa using hq
  generalize leE l v.f = le at *
  go_enter Tryd.func9, Tryd.ntmps9
  go_wp2_with fail
  refine H1.out.mono ?_
  rintro e w1 ⟨B, m, x, rfl, hBl, hok, hb1⟩
  obtain ⟨t0, t1, t2⟩ := two_new w1 _ rfl
  have KB1 := Hid.mk (bl2 KB.out (bl2 hb1 t2))
  have T0 := Hid.mk t0
  have T1 := Hid.mk t1
  have HOK := Hid.mk hok
  have hsz := (bl2 KB.out hb1).size
  have HLN := Hid.mk hsz
  clear hb1 t0 t1 t2 hok hsz
  go_wp2_with (first | ((with_reducible_and_instances refine wpl_store_line (.tmp 6) (.tmp 14) w1.heap.size (List.replicate 32 zE) B 0 m ?_ ?_ T0.out hBl ?_); rfl; rfl; intro w5 hL5 hT5; have HT5 := Hid.mk hT5; clear hL5 hT5) | ((with_reducible_and_instances refine wpl_store_own (.tmp 7) (.tmp 15) (w1.heap.size + 1) zE x ?_ ?_ (T1.out.tch HT5.out (by simp)) ?_); rfl; rfl; intro w6 hE6 hT6; have HB6 := Hid.mk (Tch.below (Tch.below KB1.out HT5.out (by simp; exact HLN.out) (Nat.le_refl _)) hT6 (by simp; have := HLN.out; omega) (Nat.le_refl _)); clear hE6 hT6))
  go_ret2
  exact ⟨rfl, HB6.out⟩
/-- what it answers of what is right: the first of its name, or none -/
def RenP (l : List FrV) (v : FrV) (w : World) (e : Ending) (w' : World) : Prop :=
  (∃ i, ∃ hi : i < l.length, nameL l[i].f = nameL v.f ∧ (∀ j (hj : j < l.length), j < i → nameL l[j].f ≠ nameL v.f) ∧ ∃ r l', e = .returned (.tuple #[r, .int .i64 0]) ∧ OwnFrs w' w.heap.size r l' ∧ l'.map (·.f) = (l.map (·.f)).set i v.f ∧ Below w.heap.size w w') ∨
  ((∀ j (hj : j < l.length), nameL l[j].f ≠ nameL v.f) ∧ ∃ r l', e = .returned (.tuple #[r, .int .i64 (putE l v.f)]) ∧ OwnFrs w' w.heap.size r l' ∧ (putE l v.f = 0 → l'.map (·.f) = putF (l.map (·.f)) v.f) ∧ (putE l v.f ≠ 0 → r = .slice none 0 0 ∧ l' = []) ∧ Below w.heap.size w w')
set_option maxHeartbeats 2000000 in
set_option maxRecDepth 100000 in
theorem renew_ok (a : Option Addr) (n cap : Nat) (l : List FrV) (v : FrV) (w : World) (hS : SizesAt w) (hF : IsFrames w a n cap l) (hY : IsBytes w v.a v.len v.cap v.f.dt) (hq : leE l v.f = 0) :
    Calls Tryd.prog 9 #[.slice a n cap, frameV v.f.id v.f.lo v.f.fa v.f.re v.f.sz v.a v.len v.cap] w fun e w' => RenP l v w e w' := by
  have hb0 := below_box w v.f.id v.f.lo v.f.fa v.f.re v.f.sz v.a v.len v.cap
  have h1 := le_any a n cap l v _ (hS.kept hb0) (hF.kept hb0) (isBytes_below hY hb0)
  have H1 := Hid.mk h1
  have KB := Hid.mk hb0
  have HFL := Hid.mk hF
  have HYV := Hid.mk hY
  unfold frameV at H1 ⊢
  unfold frameC at H1 KB
  clear hb0 h1 hS hF hY
  obtain ⟨hc, hE⟩ : chkQ (l.map (·.f)) = 0 ∧ frE v.f = 0 := by
    unfold leE at hq
    split at hq
    · rename_i h; exact ⟨h, hq⟩
    · rename_i h; exact absurd hq h
  obtain ⟨q1, q2, _⟩ := chk_ok hc
  rw [List.length_map] at q1
  have hlen := HFL.out.len
  have HPT := Hid.mk (fun W (hb : Below w.heap.size w W) => put_any l v W hq (fun u hu => isBytes_below (HFL.out.all u hu) hb) (isBytes_below HYV.out hb))
  have HFO := Hid.mk (fun k W (hb : Below w.heap.size w W) => framesOf_any (l.set k v) (List.replicate (32 - l.length) zE) W (by rw [List.length_set, List.length_replicate]; omega) (fun u hu => by
      rcases List.mem_or_eq_of_mem_set hu with h | h
      · exact isBytes_below (HFL.out.all u h) hb
      · rw [h]; exact isBytes_below HYV.out hb) (fun u hu => by
      rcases List.mem_or_eq_of_mem_set hu with h | h
      · exact q2 _ (List.mem_map_of_mem h)
      · rw [h]; exact hE))
  have hL16 : l.length ≤ 16 := q1
  rw [hq] at H1
  clear hc hE q2 q1 hlen hq
  go_enter Tryd.func9, Tryd.ntmps9
  go_wp2_with fail
  refine H1.out.mono ?_
  rintro e w1 ⟨B, m, x, rfl, hBl, hok, hb1⟩
  obtain ⟨t0, t1, t2⟩ := two_new w1 _ rfl
  have KB1 := Hid.mk (bl2 KB.out (bl2 hb1 t2))
  have T0 := Hid.mk t0
  have T1 := Hid.mk t1
  have HOK := Hid.mk hok
  have hsz := (bl2 KB.out hb1).size
  have HLN := Hid.mk hsz
  clear hb1 t0 t1 t2 hok hsz
  obtain ⟨rfl, rfl, rfl⟩ := HOK.out trivial
  clear HOK
  go_wp2_with (first | ((with_reducible_and_instances refine wpl_store_line (.tmp 6) (.tmp 14) w1.heap.size (List.replicate 32 zE) (padA l l.length) 0 l.length ?_ ?_ T0.out hBl ?_); rfl; rfl; intro w5 hL5 hT5; have HL5 := Hid.mk hL5; have HT5 := Hid.mk hT5; clear hL5 hT5) | ((with_reducible_and_instances refine wpl_store_own (.tmp 7) (.tmp 15) (w1.heap.size + 1) zE (entOf v) ?_ ?_ (T1.out.tch HT5.out (by simp)) ?_); rfl; rfl; intro w6 hE6 hT6; have HE6 := Hid.mk hE6; have hL6 := HL5.out.tch hT6 (by simp); have c224 := hL6.size; have HL6 := Hid.mk hL6; have HB6 := Hid.mk (Tch.below (Tch.below KB1.out HT5.out (by simp; exact HLN.out) (Nat.le_refl _)) hT6 (by simp; have := HLN.out; omega) (Nat.le_refl _)); clear hE6 hT6 hL6))
  go_loopw [22] (fun i wr => ∃ (k : Nat), k ≤ l.length ∧ i = .int .i64 k ∧ Hid (∀ j (hj : j < l.length), j < k → nameL l[j].f ≠ nameL v.f) ∧ Hid (LnAt wr w1.heap.size (padA l l.length) l.length) ∧ Hid (EnAt wr (w1.heap.size + 1) (entOf v)) ∧ Hid (Below w.heap.size w wr)) (fun i _ => l.length - (intOf i).toNat)
  case atStart => exact ⟨0, Nat.zero_le _, rfl, Hid.mk (fun j hj h => absurd h (Nat.not_lt_zero _)), HL6, HE6, HB6⟩
  case round =>
    obtain ⟨k, hk, rfl, HNO, HL, HE, HB⟩ := hrel
    by_cases hlt : k < l.length
    · have hlt' : (k : Int) < (l.length : Int) := by omega
      have hk0 : (0 : Int) ≤ (k : Int) := by omega
      have hk32 : (k : Int) < 32 := by omega
      have n1 : wr.cell? ⟨w1.heap.size, k * 7, none⟩ = some (.string ⟨(nameL l[k].f).toArray⟩) := by
        refine (show wr.cell? ⟨w1.heap.size, k * 7 + 0, none⟩ = _ from ?_)
        rw [HL.out.cell k 0 (by omega) (by omega), padA_name l l.length k hlt (Nat.le_refl _) (by omega)]
        rfl
      have n2 := HE.out.name
      have n2' : wr.cell? ⟨w1.heap.size + 1, 0, none⟩ = some (.string ⟨(nameL v.f).toArray⟩) := n2
      have hkA : k < (padA l l.length).length := by rw [padA_len l l.length (Nat.le_refl _) (by omega)]; omega
      have HSET := Hid.mk (padA_put l k v hlt)
      have hsl : (l.set k v).length = l.length := List.length_set
      have HFK := Hid.mk (HFO.out k)
      rw [hsl] at HFK
      generalize (l.set k v).map entOf ++ List.replicate (32 - l.length) zE = RL at *
      have hmf : (l.set k v).map (·.f) = (l.map (·.f)).set k v.f := List.map_set
      have HMF := Hid.mk hmf
      clear n2 hsl hmf
      by_cases he : nameL l[k].f = nameL v.f
      · have HEQ := Hid.mk he
        rw [he] at n1
        obtain ⟨nm, hnm⟩ : ∃ nm, nm = nameL v.f := ⟨_, rfl⟩
        rw [← hnm] at n1 n2'
        clear hnm
        have hbq : ((ByteArray.mk nm.toArray).toList == (ByteArray.mk nm.toArray).toList) = true := by simp
        clear he
        go_wp2_with fail
        go_quiet (fail)
        have HLq := Hid.mk (HL.out.drewN nq)
        have HEq := Hid.mk (show EnAt (wr.drewN nq) (w1.heap.size + 1) (entOf v) from HE.out)
        have HBq := Hid.mk (HB.out.trans (show Below w.heap.size wr (wr.drewN nq) from ⟨rfl, rfl, rfl, Nat.le_refl _, fun _ _ => rfl⟩))
        go_wp2_with (first | ((with_reducible_and_instances refine wpl_load_own (.tmp 7) (w1.heap.size + 1) (entOf v) ?_ HEq.out ?_); rfl) | ((with_reducible_and_instances refine wpl_store_ent (.tmp 36) (.tmp 34) w1.heap.size (k * 7) k (padA l l.length) l.length (entOf v) ?_ ?_ HLq.out rfl hkA ?_); rfl; rfl; intro w8 hL8 hT8; have HB8 := Hid.mk (Tch.below HBq.out hT8 (by simp; exact HLN.out) (Nat.le_refl _)); rw [HSET.out] at hL8; have HL8 := Hid.mk hL8; clear hL8 hT8) | ((with_reducible_and_instances refine wpl_load_line (.tmp 6) w1.heap.size _ _ ?_ HL8.out ?_); rfl) | ((with_reducible_and_instances refine wpl_load_line (.tmp 6) w1.heap.size [] 0 ?_ ?_ ?_)))
        refine (HFK.out _ HB8.out).mono ?_
        rintro e w9 ⟨r, l', rfl, hf, ho, hb9⟩
        go_wp2_with fail
        go_ret2
        exact .inl ⟨k, hlt, HEQ.out, fun j hj h => HNO.out j hj h, r, l', rfl, ho.mono HB8.out.size, hf.trans HMF.out, bl2 HB8.out hb9⟩
      · have HNE := Hid.mk (show ∀ j (hj : j < l.length), j < k + 1 → nameL l[j].f ≠ nameL v.f from fun j hj h => by
          by_cases e : j = k
          · subst e; exact he
          · exact HNO.out j hj (by omega))
        have hbq : ((ByteArray.mk (nameL l[k].f).toArray).toList == (ByteArray.mk (nameL v.f).toArray).toList) = false := by
          rw [ByteArray.toList_eq, ByteArray.toList_eq]
          simpa using he
        have hbq2 : (nameL l[k].f == nameL v.f) = false := by simpa using he
        obtain ⟨nm, hnm⟩ : ∃ nm, nm = nameL v.f := ⟨_, rfl⟩
        rw [← hnm] at n2' hbq hbq2
        clear hnm
        obtain ⟨nk, hnk⟩ : ∃ nk, nk = nameL l[k].f := ⟨_, rfl⟩
        rw [← hnk] at n1 hbq hbq2
        clear hnk he
        go_wp2_with fail
        go_quiet (fail)
        have HBq := Hid.mk (HB.out.trans (show Below w.heap.size wr (wr.drewN nq) from ⟨rfl, rfl, rfl, Nat.le_refl _, fun _ _ => rfl⟩))
        go_wp2_with fail
        go_roundw
        case rel => exact ⟨k + 1, by omega, by go_num, HNE, Hid.mk (HL.out.drewN nq), Hid.mk (show EnAt (wr.drewN nq) (w1.heap.size + 1) (entOf v) from HE.out), HBq⟩
        case measure => simp [intOf]; omega
    · obtain rfl : k = l.length := by omega
      go_wp2_with (first | ((with_reducible_and_instances refine wpl_load_line (.tmp 6) w1.heap.size _ _ ?_ HL.out ?_); rfl) | ((with_reducible_and_instances refine wpl_load_own (.tmp 7) (w1.heap.size + 1) (entOf v) ?_ HE.out ?_); rfl))
      refine (HPT.out _ HB.out).mono ?_
      rintro e w7 ⟨r, l', rfl, ho, hf, hn, hb7⟩
      go_wp2_with fail
      go_ret2
      exact .inr ⟨fun j hj => HNO.out j hj hj, r, l', rfl, ho.mono HB.out.size, hf, hn, bl2 HB.out hb7⟩
end Bw
end Go.Proofs.YthdffdobkampaaaDoor

/- What QueuePut's walk wants besides: Renew's answer as one, a frame stored into a row of one's own. -/
namespace Go.Proofs.YthdffdobkampaaaDoor
open Go.ChangeShapes Go.WideShapes Go.ChangeAt Go.RowKit
namespace Bw
open Bm Cm
/-- the first of its name stands at i -/
def FirstAt (l : List FrV) (v : FrV) (i : Nat) : Prop := ∃ hi : i < l.length, nameL l[i].f = nameL v.f ∧ ∀ j (hj : j < l.length), j < i → nameL l[j].f ≠ nameL v.f
structure RenU (l : List FrV) (v : FrV) (ge : Int) (r : Value) (l' : List FrV) : Prop where
  hit : ∀ i, FirstAt l v i → ge = 0 ∧ l'.map (·.f) = (l.map (·.f)).set i v.f
  miss : (∀ j (hj : j < l.length), nameL l[j].f ≠ nameL v.f) → ge = putE l v.f ∧ (putE l v.f = 0 → l'.map (·.f) = putF (l.map (·.f)) v.f) ∧ (putE l v.f ≠ 0 → r = .slice none 0 0 ∧ l' = [])
theorem renew_uni (a : Option Addr) (n cap : Nat) (l : List FrV) (v : FrV) (w : World) (hS : SizesAt w) (hF : IsFrames w a n cap l) (hY : IsBytes w v.a v.len v.cap v.f.dt) (hq : leE l v.f = 0) :
    Calls Tryd.prog 9 #[.slice a n cap, frameV v.f.id v.f.lo v.f.fa v.f.re v.f.sz v.a v.len v.cap] w fun e w' => ∃ r l' ge, e = .returned (.tuple #[r, .int .i64 ge]) ∧ OwnFrs w' w.heap.size r l' ∧ RenU l v ge r l' ∧ Below w.heap.size w w' := by
  refine (renew_ok a n cap l v w hS hF hY hq).mono ?_
  intro e w' h
  rcases h with ⟨i, hi, hn, hmin, r, l', rfl, ho, hf, hb⟩ | ⟨hno, r, l', rfl, ho, h0, h1, hb⟩
  · refine ⟨r, l', 0, rfl, ho, ⟨?_, fun hm => absurd hn (hm i hi)⟩, hb⟩
    rintro i' ⟨hi', hn', hmin'⟩
    have e : i' = i := by
      rcases Nat.lt_trichotomy i' i with h | h | h
      · exact absurd hn' (hmin i' hi' h)
      · exact h
      · exact absurd hn (hmin' i hi h)
    subst e
    exact ⟨rfl, hf⟩
  · refine ⟨r, l', _, rfl, ho, ⟨?_, fun _ => ⟨rfl, h0, h1⟩⟩, hb⟩
    rintro i' ⟨hi', hn', _⟩
    exact absurd hn' (hno i' hi')
theorem f_at {l l0 : List FrV} (h : l0.map (·.f) = l.map (·.f)) (j : Nat) (h0 : j < l0.length) (h1 : j < l.length) : l0[j].f = l[j].f := by
  have e1 : (l0.map (·.f))[j]? = some l0[j].f := by rw [List.getElem?_map, List.getElem?_eq_getElem h0]; rfl
  have e2 : (l.map (·.f))[j]? = some l[j].f := by rw [List.getElem?_map, List.getElem?_eq_getElem h1]; rfl
  rw [h, e2] at e1
  exact (Option.some.inj e1).symm
theorem firstAt_of {l l0 : List FrV} {v : FrV} {k : Nat} (h : l0.map (·.f) = l.map (·.f)) (hf : FirstAt l v k) : FirstAt l0 v k := by
  have hl : l0.length = l.length := by have := congrArg List.length h; simpa using this
  obtain ⟨hi, h1, h2⟩ := hf
  refine ⟨by omega, ?_, fun j hj hjk => ?_⟩
  · rw [f_at h k (by omega) hi]; exact h1
  · rw [f_at h j hj (by omega)]; exact h2 j (by omega) hjk
theorem miss_of {l l0 : List FrV} {v : FrV} (h : l0.map (·.f) = l.map (·.f)) (hm : ∀ j (hj : j < l.length), nameL l[j].f ≠ nameL v.f) : ∀ j (hj : j < l0.length), nameL l0[j].f ≠ nameL v.f := by
  have hl : l0.length = l.length := by have := congrArg List.length h; simpa using this
  intro j hj
  rw [f_at h j hj (by omega)]
  exact hm j (by omega)
theorem frC_set (l : List FrV) (k : Nat) (v : FrV) (h : k < l.length) : frC (l.set k v) = frC (l.take k) ++ (v.cells ++ frC (l.drop (k + 1))) := by
  rw [List.set_eq_take_append_cons_drop, if_pos h, frC_app]; rfl
/-- a frame is stored into a row of one's own -/
theorem wpl_store_row {ops : Array Oper} {rest : List Oper} {dst : Option Tmp} {ty : TypeId} {pos : String} {aft : Array Edge} {a : Act} {w : World} {Q : Exit → Act → World → Prop} (x y : Operand) (base g o n c k : Nat) (l : List FrV) (v : FrV) (hx : a.eval x = .pointer (some ⟨g, o, none⟩)) (hy : a.eval y = .agg v.cells.toArray) (hO : w.ownsRow base 25 6 (.slice (some ⟨g, 0, none⟩) n c) n (frC l)) (hl : l.length = n) (ho : o = k * 6) (hk : k < n)
    (h : ∀ w', w'.ownsRow base 25 6 (.slice (some ⟨g, 0, none⟩) n c) n (frC (l.set k v)) → Tch [g] w w' → wpList Tryd.prog ops Q rest (a.put dst undef) w') :
    wpList Tryd.prog ops Q (Oper.mk dst (.store 25 x y) ty pos aft none :: rest) a w := by
  subst ho
  rcases hO.2 with ⟨h1, h2⟩ | ⟨g', cap, cur, h1, hbg, hg, hc, hm, hsz, htk⟩
  · cases h1
  · injection h1 with e1 e2 e3
    injection e1 with e1
    injection e1 with e1
    subst e1
    subst e3
    have hset := set_row (o := k * 6) hg (by rw [hsz]; show k * 6 + 6 ≤ _; omega) (frv_oneI v)
    refine wpList_store_mid rfl 25 x y rfl g (k * 6) v.cells.toArray hx hy (fun j hj => ⟨?_, frozen_of_row w g _ _ _ hg⟩) fr_info (all_oneCell_toArray (frv_oneI v)) ?_
    · have hj' : j < 6 := hj
      rw [cell_of_row w g _ _ _ _ hg, Array.getElem?_eq_getElem (by rw [hsz]; omega)]; rfl
    · show wpList _ _ _ _ _ (w.setCells g (k * 6) v.cells)
      rw [hset]
      refine h _ ⟨by rw [frC_length, List.length_set, hl], .inr ⟨g, c, _, rfl, hbg, setRow_heap w g _ _ _ _ hg, hc, hm, ?_, ?_⟩⟩ (tch_row _)
      · rw [List.size_toArray]
        simp only [List.length_append, List.length_take, List.length_drop, Array.length_toList, hsz]
        show _ + 6 + (_ - (_ + 6)) = _
        omega
      · have h6 : v.cells.length = 6 := rfl
        have e1 : cur.toList.take (k * 6) = frC (l.take k) := by
          have : cur.toList.take (k * 6) = (frC l).take (k * 6) := by rw [← htk, List.take_take, Nat.min_eq_left (by omega)]
          rw [this, frC_td l k]
          exact List.take_left' (by rw [frC_length, List.length_take]; omega)
        have e2 : (cur.toList.drop (k * 6 + 6)).take ((n - (k + 1)) * 6) = frC (l.drop (k + 1)) := by
          have h7 : (cur.toList.take (n * 6)).drop (k * 6 + 6) = (frC l).drop (k * 6 + 6) := by rw [htk]
          rw [List.drop_take, show n * 6 - (k * 6 + 6) = (n - (k + 1)) * 6 by omega] at h7
          rw [h7, frC_td l (k + 1)]
          exact List.drop_left' (by rw [frC_length, List.length_take]; omega)
        rw [List.toList_toArray, h6, frC_set l k v (by omega), List.append_assoc, List.take_append, e1]
        have htl : (frC (l.take k)).length = k * 6 := by rw [frC_length, List.length_take]; omega
        rw [List.take_of_length_le (l := frC (l.take k)) (by rw [htl]; omega), htl, List.take_append, h6, List.take_of_length_le (l := v.cells) (by rw [h6]; omega), show n * 6 - k * 6 - 6 = (n - (k + 1)) * 6 by omega, e2]
end Bw
end Go.Proofs.YthdffdobkampaaaDoor

/- What queue.Take answers. -/
namespace Go.Proofs.YthdffdobkampaaaDoor
open Go.ChangeShapes Go.WideShapes Go.ChangeAt Go.RowKit
namespace Bw
open Bm Cm
/-- the block of a frame -/
def FmAt (w : World) (b : Nat) (v : FrV) : Prop := w.heap[b]? = some (.cells v.cells.toArray 25 (0, 0))
theorem FmAt.lt {w : World} {b : Nat} {v : FrV} (h : FmAt w b v) : b < w.heap.size := (Array.getElem?_eq_some_iff.1 h).1
theorem FmAt.kept {w w' : World} {b : Nat} {v : FrV} (h : FmAt w b v) (hb : Below w.heap.size w w') : FmAt w' b v := by unfold FmAt; rw [hb.block b h.lt]; exact h
theorem FmAt.tch {gs : List Nat} {w w' : World} {b : Nat} {v : FrV} (h : FmAt w b v) (ht : Tch gs w w') (hb : b ∉ gs) : FmAt w' b v := by unfold FmAt; rw [ht.block b h.lt hb]; exact h
theorem FmAt.new (w : World) (v : FrV) : FmAt (w.alloc (.cells v.cells.toArray 25)) w.heap.size v := heap_alloc_new w _
theorem frv_one (v : FrV) : ∀ u ∈ v.cells, u.oneCell' = true := by
  intro u hu
  unfold FrV.cells at hu
  simp only [List.mem_cons, List.not_mem_nil, or_false] at hu
  rcases hu with rfl | rfl | rfl | rfl | rfl | rfl <;> rfl
/-- a frame of its own is stored -/
theorem wp_store_fm {o : Oper} {a : Act} {w : World} {K : Act → World → Prop} {Q : Exit → Act → World → Prop} (x y : Operand) (ho : o.op = .store 25 x y) (b : Nat) (e e' : FrV) (hx : a.eval x = .pointer (some ⟨b, 0, none⟩)) (hy : a.eval y = .agg e'.cells.toArray) (hL : FmAt w b e)
    (h : ∀ w', FmAt w' b e' → Tch [b] w w' → K (a.put o.dst undef) w') : o.wp Tryd.prog a w K Q := by
  have hlen : e'.cells.length = 6 := rfl
  have hsz : e.cells.toArray.size = 6 := rfl
  have hset := set_row (o := 0) hL (by rw [hlen, hsz]; omega) (frv_one e')
  rw [Nat.zero_add, List.take_zero, List.nil_append, List.drop_of_length_le (by rw [hlen]; exact Nat.le_refl _), List.append_nil] at hset
  refine wp_store_mid 25 x y ho b 0 e'.cells.toArray hx hy (fun j hj => ⟨?_, frozen_of_row w b _ _ _ hL⟩) fr_info (all_oneCell_toArray (frv_one e')) ?_
  · have hj' : j < 6 := hj
    rw [cell_of_row w b _ _ _ _ hL]; rw [Array.getElem?_eq_getElem (by rw [hsz]; omega)]; rfl
  · show K _ (w.setCells b 0 e'.cells)
    rw [hset]
    exact h _ (setRow_heap w b _ _ _ _ hL) (tch_row _)
theorem wpl_store_fm {ops : Array Oper} {rest : List Oper} {dst : Option Tmp} {ty : TypeId} {pos : String} {aft : Array Edge} {a : Act} {w : World} {Q : Exit → Act → World → Prop} (x y : Operand) (b : Nat) (e e' : FrV) (hx : a.eval x = .pointer (some ⟨b, 0, none⟩)) (hy : a.eval y = .agg e'.cells.toArray) (hL : FmAt w b e)
    (h : ∀ w', FmAt w' b e' → Tch [b] w w' → wpList Tryd.prog ops Q rest (a.put dst undef) w') :
    wpList Tryd.prog ops Q (Oper.mk dst (.store 25 x y) ty pos aft none :: rest) a w :=
  wpList_plain rfl fun _ hK => wp_store_fm x y rfl b e e' hx hy hL fun w' h1 h2 => hK _ _ (h w' h1 h2)
theorem tk_results (tmps : Array Value) (w : World) (b : Nat) (v : FrV) (y z : Value) (hp : tmps.getD 2 undef = .pointer (some ⟨b, 0, none⟩)) (hy : tmps.getD 3 undef = y) (hz : tmps.getD 4 undef = z) (h : FmAt w b v) :
    (results Tryd.f10 tmps).run Tryd.prog w = .ok (.tuple #[.agg v.cells.toArray, y, z]) w := by
  have hl := run_loadVar_row (P := Tryd.prog) w b 25 25 _ (0, 0) _ h Tryd.underlying25 rfl fr_info
  have hp' : tmps[2]?.getD undef = .pointer (some ⟨b, 0, none⟩) := by simpa using hp
  have hy' : tmps[3]?.getD undef = y := by simpa using hy
  have hz' : tmps[4]?.getD undef = z := by simpa using hz
  simp [results, hp', hy', hz', asAddr, hl]
theorem elem_fr : Tryd.prog.elem 22 = 25 := by kernel_rfl
theorem size_fr (W : World) : (sizeOf 25).run Tryd.prog W = .ok 6 W := by simp [go_sem]
theorem und_fr : Tryd.prog.underlying 22 = some (.slice (Tryd.prog.elem 22)) := by rw [elem_fr]; exact Tryd.underlying22
theorem slice_fr (x : Addr) (n c k : Nat) (hk : k ≤ n) (W : World) : (Instr.slice 22 (.slice (some x) n c) (some (.int .i64 (k : Int))) none none).run Tryd.prog W = .ok (.slice (some (if c = k then x else x.add (k * 6))) (n - k) (c - k)) W := by
  rw [run_slice_l (ht := und_fr) (h0 := by omega) (h1 := by omega), elem_fr, size_fr]
  simp only [Result.andThen, sliced, Int.toNat_natCast]
  split <;> rfl
theorem frames_drop {w : World} {x : Addr} {n c : Nat} {l : List FrV} (h : IsFrames w (some x) n c l) (k : Nat) (hk : k ≤ n) : IsFrames w (some (if c = k then x else x.add (k * 6))) (n - k) (c - k) (l.drop k) := by
  have hl := h.len
  have hc := h.le
  have hm := h.max
  refine ⟨by rw [List.length_drop]; omega, by omega, by omega, (fun h => by cases h), fun y hy i hi j hj => ?_, fun i hi => ?_⟩
  · rw [List.length_drop] at hi
    rw [if_neg (by omega)] at hy
    cases hy
    have ea : (x.add (k * 6)).add (i * 6 + j) = x.add (k * 6 + (i * 6 + j)) := by
      first | exact Addr.add_add _ _ _ | (unfold Addr.add; simp; omega)
    have h1 := h.cell x rfl (k + i) (by omega) j hj
    rw [ea, show k * 6 + (i * 6 + j) = (k + i) * 6 + j by omega, h1]
    simp only [List.getElem_drop]
    rfl
  · rw [List.getElem_drop]
    rw [List.length_drop] at hi
    exact h.bytes (k + i) (by omega)
theorem range_tch {gs : List Nat} {w w' : World} {b o : Nat} {cs : List Value} (h : w.rangeAt b o cs) (ht : Tch gs w w') (hb : b ∉ gs) : w'.rangeAt b o cs := by
  intro j v hv
  have h1 := h j v hv
  have hlt := block_lt_of_cell h1
  unfold World.cell? at h1 ⊢
  rw [ht.block b hlt hb]
  exact h1
theorem IsFrames.tch {gs : List Nat} {w w' : World} {a : Option Addr} {n cap : Nat} {l : List FrV} (h : IsFrames w a n cap l) (ht : Tch gs w w') (ha : ∀ x, a = some x → x.block ∉ gs) (hd : ∀ v ∈ l, ∀ x, v.a = some x → x.block ∉ gs) : IsFrames w' a n cap l := by
  refine ⟨h.len, h.le, h.max, h.none, fun x hx i hi k hk => ?_, fun i hi => isBytes_tchO (h.bytes i hi) ht (hd _ (List.getElem_mem hi))⟩
  have h1 := h.cell x hx i hi k hk
  have hlt := block_lt_of_cell h1
  have hblk : (x.add (i * 6 + k)).block = x.block := by unfold Addr.add; split <;> rfl
  unfold World.cell? at h1 ⊢
  rw [ht.block _ hlt (by rw [hblk]; exact ha x hx)]
  exact h1
def takeE (l : List Fr) : Int := if chkQ l = 0 then (if l.length = 0 then 8 else 0) else chkQ l
set_option maxHeartbeats 1000000 in
set_option maxRecDepth 100000 in
theorem take_bad (a : Option Addr) (n cap : Nat) (l : List FrV) (w : World) (hS : SizesAt w) (hF : IsFrames w a n cap l) (hq : chkQ (l.map (·.f)) ≠ 0 ∨ n = 0) :
    Calls Tryd.prog 10 #[.slice a n cap] w fun e w' => e = .returned (.tuple #[.agg zV.cells.toArray, .slice none 0 0, .int .i64 (takeE (l.map (·.f)))]) ∧ Below w.heap.size w w' := by
  have hb0 : Below w.heap.size w (w.alloc (.cells zV.cells.toArray 25)) := (Below.refl _ _).alloc (Nat.le_refl _) _
  have hM0 := FmAt.new w zV
  have h1 := lineOf_any a n cap l _ (hS.kept hb0) (hF.kept hb0)
  have HB0 := Hid.mk hb0
  have HM0 := Hid.mk hM0
  have hlen := hF.len
  by_cases hc : chkQ (l.map (·.f)) = 0
  · have hn0 : n = 0 := by rcases hq with h | h; exact absurd hc h; exact h
    have e0 : takeE (l.map (·.f)) = 8 := by unfold takeE; rw [if_pos hc, if_pos (by rw [List.length_map, hlen]; exact hn0)]
    rw [hc, show lineL l = lnC (padA l l.length) l.length by unfold lineL; rw [if_pos hc]] at h1
    have hplen : (padA l l.length).length = 32 := padA_len l l.length (Nat.le_refl _) (by omega)
    have hl0 : (l.length : Int) = 0 := by omega
    rw [hl0] at h1
    rw [e0]
    generalize padA l l.length = PA at *
    have H1 := Hid.mk h1
    subst hn0
    clear hb0 hM0 h1 hS hF hq hc e0 hl0 hlen
    go_enter Tryd.func10, Tryd.ntmps10
    go_wp2_with fail
    refine H1.out.mono ?_
    rintro e w1 ⟨rfl, hb1⟩
    have hb12 := bl2 hb1 (below_zero w1)
    have HM1 := Hid.mk (HM0.out.kept hb12)
    have HB1 := Hid.mk (bl2 HB0.out hb12)
    have hl1 : w.heap.size < w1.heap.size := (HM0.out.kept hb1).lt
    clear hb1 hb12
    go_wp2_with (first | ((with_reducible_and_instances refine wpl_store_line (.tmp 5) (.tmp 11) w1.heap.size (List.replicate 32 zE) PA 0 0 ?_ ?_ (LnAt.zero w1) hplen ?_); rfl; rfl; intro w5 hL5 hT5; have c5 := hL5.size; have HT5 := Hid.mk hT5; clear hL5 hT5) | ((with_reducible_and_instances refine wpl_store_fm (.tmp 2) (.tmp 20) w.heap.size zV zV ?_ ?_ (HM1.out.tch HT5.out (by simp; omega)) ?_); rfl; rfl; intro w6 hE6 hT6))
    refine bodyPost_ret (tk_results _ _ w.heap.size _ _ _ rfl rfl rfl hE6) rfl ?_
    exact ⟨rfl, Tch.below (Tch.below HB1.out HT5.out (by simp; omega) (Nat.le_refl _)) hT6 (by simp) (Nat.le_refl _)⟩
  · have e0 : takeE (l.map (·.f)) = chkQ (l.map (·.f)) := by unfold takeE; rw [if_neg hc]
    rw [show lineL l = lnC (List.replicate 32 zE) 0 by unfold lineL; rw [if_neg hc]] at h1
    rw [e0]
    have hplen : (List.replicate 32 zE).length = 32 := by simp
    have hne : (chkQ (l.map (·.f)) != 0) = true := by simpa using hc
    generalize chkQ (l.map (·.f)) = ce at *
    have H1 := Hid.mk h1
    clear hb0 hM0 h1 hS hF hq hc e0 hlen
    go_enter Tryd.func10, Tryd.ntmps10
    go_wp2_with fail
    refine H1.out.mono ?_
    rintro e w1 ⟨rfl, hb1⟩
    have hb12 := bl2 hb1 (below_zero w1)
    have HM1 := Hid.mk (HM0.out.kept hb12)
    have HB1 := Hid.mk (bl2 HB0.out hb12)
    have hl1 : w.heap.size < w1.heap.size := (HM0.out.kept hb1).lt
    clear hb1 hb12
    go_wp2_with (first | ((with_reducible_and_instances refine wpl_store_line (.tmp 5) (.tmp 11) w1.heap.size (List.replicate 32 zE) (List.replicate 32 zE) 0 0 ?_ ?_ (LnAt.zero w1) hplen ?_); rfl; rfl; intro w5 hL5 hT5; have HT5 := Hid.mk hT5; clear hL5 hT5) | ((with_reducible_and_instances refine wpl_store_fm (.tmp 2) (.tmp 15) w.heap.size zV zV ?_ ?_ (HM1.out.tch HT5.out (by simp; omega)) ?_); rfl; rfl; intro w6 hE6 hT6))
    refine bodyPost_ret (tk_results _ _ w.heap.size _ _ _ rfl rfl rfl hE6) rfl ?_
    exact ⟨rfl, Tch.below (Tch.below HB1.out HT5.out (by simp; omega) (Nat.le_refl _)) hT6 (by simp) (Nat.le_refl _)⟩
set_option maxHeartbeats 1000000 in
set_option maxRecDepth 100000 in
theorem take_ok (a : Option Addr) (n cap : Nat) (l : List FrV) (w : World) (hS : SizesAt w) (hF : IsFrames w a n cap l) (hc : chkQ (l.map (·.f)) = 0) (hn : 0 < n) :
    Calls Tryd.prog 10 #[.slice a n cap] w fun e w' => ∃ (v : FrV) (x : Addr) (c : Nat) (l2 : List FrV), e = .returned (.tuple #[.agg v.cells.toArray, .slice (some x) (n - 1) c, .int .i64 0]) ∧ v.f :: l2.map (·.f) = l.map (·.f) ∧ IsBytes w' v.a v.len v.cap v.f.dt ∧ IsFrames w' (some x) (n - 1) c l2 ∧ Below w.heap.size w w' := by
  have hb0 : Below w.heap.size w (w.alloc (.cells zV.cells.toArray 25)) := (Below.refl _ _).alloc (Nat.le_refl _) _
  have hM0 := FmAt.new w zV
  have h1 := lineOf_any a n cap l _ (hS.kept hb0) (hF.kept hb0)
  have HB0 := Hid.mk hb0
  have HM0 := Hid.mk hM0
  have hlen := hF.len
  obtain ⟨q1, q2, _⟩ := chk_ok hc
  rw [List.length_map] at q1
  rw [hc, show lineL l = lnC (padA l l.length) l.length by unfold lineL; rw [if_pos hc]] at h1
  have hplen : (padA l l.length).length = 32 := padA_len l l.length (Nat.le_refl _) (by omega)
  have hYl := hF.all
  have hfo := fun W (hb : Below w.heap.size w W) => framesOf_any l (List.replicate (32 - l.length) zE) W (by rw [List.length_replicate]; omega) (fun u hu => isBytes_below (hYl u hu) hb) (fun u hu => q2 _ (List.mem_map_of_mem hu))
  rw [← padA_all] at hfo
  generalize padA l l.length = PA at *
  have hl0 : (l.length : Int) = (n : Int) := by omega
  rw [hl0] at h1 hfo
  have H1 := Hid.mk h1
  have HFO := Hid.mk hfo
  have hnb : ((n : Int) == 0) = false := by simp; omega
  clear hb0 hM0 h1 hS hF hc hl0 hfo hYl q1 q2
  go_enter Tryd.func10, Tryd.ntmps10
  go_wp2_with fail
  refine H1.out.mono ?_
  rintro e w1 ⟨rfl, hb1⟩
  have hb12 := bl2 hb1 (below_zero w1)
  have HM1 := Hid.mk (HM0.out.kept hb12)
  have HB1 := Hid.mk (bl2 HB0.out hb12)
  have hl1 : w.heap.size < w1.heap.size := (HM0.out.kept hb1).lt
  clear hb1 hb12
  go_wp2_with (first | ((with_reducible_and_instances refine wpl_store_line (.tmp 5) (.tmp 11) w1.heap.size (List.replicate 32 zE) PA 0 n ?_ ?_ (LnAt.zero w1) hplen ?_); rfl; rfl; intro w5 hL5 hT5; have c5 := hL5.size; have HL5 := Hid.mk hL5; have HT5 := Hid.mk hT5; clear hL5 hT5) | ((with_reducible_and_instances refine wpl_load_line (.tmp 5) w1.heap.size _ _ ?_ HL5.out ?_); rfl))
  have HB5 := Hid.mk (Tch.below HB1.out HT5.out (by simp; omega) (Nat.le_refl _))
  have HM5 := Hid.mk (HM1.out.tch HT5.out (by simp; omega))
  refine (HFO.out _ HB5.out).mono ?_
  rintro e w6 ⟨r, l', rfl, hf, ho, hb6⟩
  have HB6 := Hid.mk (bl2 HB5.out hb6)
  have HM6 := Hid.mk (HM5.out.kept hb6)
  have hl' : l'.length = n := by have := congrArg List.length hf; simpa [hlen] using this
  obtain ⟨a6, c6, rfl, hF6⟩ := ho.frames
  obtain ⟨g, rfl, hg⟩ : ∃ g, a6 = some ⟨g, 0, none⟩ ∧ w.heap.size < g := by
    rcases ho.row.2 with ⟨h1, h2⟩ | ⟨g, cap2, cur, h1, hg, _⟩
    · omega
    · refine ⟨g, ?_, ?_⟩
      · injection h1
      · have := HM5.out.lt; omega
  rw [hl'] at hF6 ⊢
  obtain ⟨v, l2, rfl⟩ : ∃ v l2, l' = v :: l2 := by
    cases l' with
    | nil => simp at hl'; omega
    | cons v l2 => exact ⟨v, l2, rfl⟩
  have hFd := frames_drop hF6 1 (by omega)
  have hsl := fun W => slice_fr ⟨g, 0, none⟩ n c6 1 (by omega) W
  rw [show ((1 : Nat) : Int) = 1 from rfl] at hsl
  have hxb : (if c6 = 1 then (⟨g, 0, none⟩ : Addr) else Addr.add ⟨g, 0, none⟩ (1 * 6)).block = g := by
    split
    · rfl
    · unfold Addr.add; split <;> rfl
  generalize (if c6 = 1 then (⟨g, 0, none⟩ : Addr) else Addr.add ⟨g, 0, none⟩ (1 * 6)) = x2 at *
  have hrg : w6.rangeAt g 0 v.cells := by
    intro j u hj
    obtain ⟨hj6, hju⟩ := List.getElem?_eq_some_iff.1 hj
    have h2 := hF6.cell ⟨g, 0, none⟩ rfl 0 (by simp) j hj6
    rw [Nat.zero_mul, Nat.zero_add, Addr.add_mid] at h2
    rw [h2]
    exact congrArg some hju
  have hYv := hF6.bytes 0 (by simp)
  have HFd := Hid.mk hFd
  have HRG := Hid.mk hrg
  have HYV := Hid.mk (show IsBytes w6 v.a v.len v.cap v.f.dt from hYv)
  have HFM := Hid.mk hf
  have hn' : (0 : Int) < (n : Int) := by omega
  have hn1 : (1 : Int) ≤ (n : Int) := by omega
  have hfr : ∀ u ∈ v :: l2, ∀ y, u.a = some y → y.block ∉ [w.heap.size] := by
    intro u hu y hy e
    have h1 := ho.fresh u hu y hy
    have h2 := HM5.out.lt
    simp at e
    omega
  have HFR := Hid.mk hfr
  have HXB := Hid.mk hxb
  clear ho hb6 HT5 c5 hF6 hFd hrg hf hYv hfr hxb
  go_wp2_with fail
  refine wp_region_held_drew (S := fun W => W.rangeAt g 0 v.cells) (by kernel_rfl) HRG.out (fun hHeld => ?_)
  refine wpAnyH_take (i := 0) (v := .slice (some ⟨g, 0, none⟩) n c6) rfl (by kernel_rfl) (by kernel_rfl) (by kernel_rfl) (fun _ _ _ h => h) (Or.inl ⟨by rfl, fun _ _ => rfl⟩) hHeld ?_
  simp only [List.getElem_toArray, List.getElem_cons_zero, Act.put, List.setIfInBounds_toArray, List.set_cons_zero, List.set_cons_succ]
  refine wpAnyH_take (i := 1) (v := .pointer (some ⟨g, 0, none⟩)) rfl (by kernel_rfl) (by kernel_rfl) (by kernel_rfl) (fun _ _ _ h => h) (Or.inl ⟨by rfl, fun W hW => by clear hW hHeld; go_simp⟩) hHeld ?_
  simp only [List.getElem_toArray, List.getElem_cons_zero, List.getElem_cons_succ, Act.put, List.setIfInBounds_toArray, List.set_cons_zero, List.set_cons_succ]
  refine wpAnyH_take (i := 2) rfl (by kernel_rfl) (by kernel_rfl) (by kernel_rfl) (fun _ _ _ h => h) (yieldsIf_load_mid (by rfl) _ _ rfl g 0 rfl v.cells _ (fun W hW => hW) Tryd.underlying25 rfl fr_info) hHeld ?_
  simp only [List.getElem_toArray, List.getElem_cons_zero, List.getElem_cons_succ, Act.put, List.setIfInBounds_toArray, List.set_cons_zero, List.set_cons_succ]
  refine wpAnyH_take (i := 3) (v := .slice (some ⟨g, 0, none⟩) n c6) rfl (by kernel_rfl) (by kernel_rfl) (by kernel_rfl) (fun _ _ _ h => h) (Or.inl ⟨by rfl, fun _ _ => rfl⟩) hHeld ?_
  simp only [List.getElem_toArray, List.getElem_cons_zero, List.getElem_cons_succ, Act.put, List.setIfInBounds_toArray, List.set_cons_zero, List.set_cons_succ]
  refine wpAnyH_take (i := 4) (v := .slice (some x2) (n - 1) (c6 - 1)) rfl (by kernel_rfl) (by kernel_rfl) (by kernel_rfl) (fun _ _ _ h => h) (Or.inl ⟨by rfl, fun W hW => by clear hW hHeld; go_simp⟩) hHeld ?_
  simp only [List.getElem_toArray, List.getElem_cons_zero, List.getElem_cons_succ, Act.put, List.setIfInBounds_toArray, List.set_cons_zero, List.set_cons_succ]
  refine wpAnyH_ready (rs := [5]) (by kernel_rfl) (by simp) ?_
  refine AllReadyH.cons rfl (fun K hK => ?_) AllReadyH.nil
  rw [if_pos (by rfl)]
  refine wp_store_fm (.tmp 2) (.tmp 25) rfl w.heap.size zV v rfl rfl HM6.out ?_
  intro w8 hE8 hT8
  refine hK.out _ _ (range_tch hHeld hT8 (by simp; omega)) (fun hHeld8 => ?_)
  clear hK K
  simp only [List.getElem_toArray, List.getElem_cons_zero, List.getElem_cons_succ, Act.put]
  refine wpAnyH_take (i := 6) (v := .slice (some x2) (n - 1) (c6 - 1)) rfl (by kernel_rfl) (by kernel_rfl) (by kernel_rfl) (fun _ _ _ h => h) (Or.inl ⟨by rfl, fun _ _ => rfl⟩) hHeld8 ?_
  simp only [List.getElem_toArray, List.getElem_cons_zero, List.getElem_cons_succ, Act.put, List.setIfInBounds_toArray, List.set_cons_zero, List.set_cons_succ]
  refine wpAnyH_take (i := 7) (v := .int .i64 0) rfl (by kernel_rfl) (by kernel_rfl) (by kernel_rfl) (fun _ _ _ h => h) (Or.inl ⟨by rfl, fun _ _ => rfl⟩) hHeld8 ?_
  simp only [List.getElem_toArray, List.getElem_cons_zero, List.getElem_cons_succ, Act.put, List.setIfInBounds_toArray, List.set_cons_zero, List.set_cons_succ]
  refine wpAnyH_done (by kernel_rfl) ?_ _
  go_wp2_with fail
  refine bodyPost_ret (tk_results _ _ w.heap.size _ _ _ rfl rfl rfl hE8) rfl ?_
  have hb8 : Below w.heap.size w w8 := Tch.below (HB6.out.trans (show Below w.heap.size w6 w6.drew from ⟨rfl, rfl, rfl, Nat.le_refl _, fun _ _ => rfl⟩)) hT8 (by simp) (Nat.le_refl _)
  exact ⟨v, x2, _, _, rfl, HFM.out, isBytes_tchO (w := w6.drew) HYV.out hT8 (fun y hy => HFR.out v (by simp) y hy), IsFrames.tch (w := w6.drew) ⟨HFd.out.len, HFd.out.le, HFd.out.max, HFd.out.none, HFd.out.cell, HFd.out.bytes⟩ hT8 (fun y hy => by cases hy; rw [HXB.out]; simp; omega) (fun u hu y hy => HFR.out u (List.mem_cons_of_mem _ hu) y hy), hb8⟩
end Bw
end Go.Proofs.YthdffdobkampaaaDoor

/- What queue.Merge answers. -/
namespace Go.Proofs.YthdffdobkampaaaDoor
open Go.ChangeShapes Go.WideShapes Go.ChangeAt Go.RowKit
namespace Bw
open Bm Cm
def mrgV (a b : List FrV) : List FrV := b.foldl putV a
theorem mrgV_f (b : List FrV) : ∀ a, (mrgV a b).map (·.f) = mrgF (a.map (·.f)) (b.map (·.f)) := by
  induction b with
  | nil => intro a; rfl
  | cons v b ih => intro a; show (mrgV (putV a v) b).map (·.f) = mrgF (putF (a.map (·.f)) v.f) (b.map (·.f)); rw [ih, putV_f]
theorem mrgV_len (b : List FrV) : ∀ a, (mrgV a b).length = a.length + b.length := by
  induction b with
  | nil => intro a; rfl
  | cons v b ih => intro a; show (mrgV (putV a v) b).length = _; rw [ih, putV_len, List.length_cons]; omega
theorem mrgV_mem (b : List FrV) : ∀ a y, y ∈ mrgV a b → y ∈ a ∨ y ∈ b := by
  induction b with
  | nil => intro a y h; exact .inl h
  | cons v b ih =>
    intro a y h
    rcases ih (putV a v) y h with h | h
    · rcases (insAt_mem a _ v y).1 h with h | h
      · exact .inr (List.mem_cons.2 (.inl h))
      · exact .inl h
    · exact .inr (List.mem_cons.2 (.inr h))
theorem mrgV_next (a b : List FrV) (k : Nat) (h : k < b.length) : mrgV a (b.take (k + 1)) = putV (mrgV a (b.take k)) b[k] := by
  unfold mrgV
  rw [List.take_succ_eq_append_getElem h, List.foldl_append]; rfl
/-- the line of two queues, k of the second one put in -/
def mgA (a b : List FrV) (k : Nat) : List Ent := (mrgV a (b.take k)).map entOf ++ List.replicate (32 - a.length - k) zE
theorem mgA_len (a b : List FrV) (k : Nat) (hk : k ≤ b.length) (h : a.length + k ≤ 32) : (mgA a b k).length = 32 := by
  unfold mgA
  rw [List.length_append, List.length_map, mrgV_len, List.length_take, List.length_replicate]; omega
theorem mgA_zero (a b : List FrV) : mgA a b 0 = padA a a.length := by
  unfold mgA padA
  rw [List.take_length]
  rfl
theorem with_mg (a b : List FrV) (k : Nat) (w : World) (hk : k < b.length) (ha : a.length ≤ 16) (hb : b.length ≤ 16) :
    Calls Tryd.prog 38 #[.agg (lnC (mgA a b k) ((a.length + k : Nat) : Int)).toArray, .agg (entOf b[k]).cells.toArray] w fun e w' => e = .returned (.agg (lnC (mgA a b (k + 1)) ((a.length + (k + 1) : Nat) : Int)).toArray) ∧ Below w.heap.size w w' := by
  have hl : (mrgV a (b.take k)).length = a.length + k := by rw [mrgV_len, List.length_take]; omega
  have h := with_line (mrgV a (b.take k)) (List.replicate (32 - a.length - k) zE) b[k] w (by rw [hl, List.length_replicate]; omega) (by rw [List.length_replicate]; omega)
  rw [← mrgV_next a b k hk, List.drop_replicate, hl, mrgV_len, List.length_take] at h
  have e1 : 32 - a.length - k - 1 = 32 - a.length - (k + 1) := by omega
  have e2 : a.length + min (k + 1) b.length = a.length + (k + 1) := by omega
  rw [e1, e2] at h
  exact h
theorem mg_end (a b : List FrV) : mgA a b b.length = (((mrgV a b).take 16).map entOf) ++ (((mrgV a b).drop 16).map entOf ++ List.replicate (32 - a.length - b.length) zE) := by
  unfold mgA
  rw [List.take_length, ← List.append_assoc, ← List.map_append, List.take_append_drop]
def mrgE (a b : List Fr) : Int := if chkQ a = 0 then chkQ b else chkQ a
set_option maxHeartbeats 1000000 in
set_option maxRecDepth 100000 in
theorem merge_bad (a : Option Addr) (n cap : Nat) (l : List FrV) (a' : Option Addr) (n' cap' : Nat) (l' : List FrV) (w : World) (hS : SizesAt w) (hF : IsFrames w a n cap l) (hF' : IsFrames w a' n' cap' l') (hq : mrgE (l.map (·.f)) (l'.map (·.f)) ≠ 0) :
    Calls Tryd.prog 21 #[.slice a n cap, .slice a' n' cap'] w fun e w' => e = .returned (.tuple #[.slice none 0 0, .int .i64 0, .int .i64 (mrgE (l.map (·.f)) (l'.map (·.f)))]) ∧ Below w.heap.size w w' := by
  have h1 := lineOf_any a n cap l w hS hF
  have h2 := fun W (hb : Below w.heap.size w W) => lineOf_any a' n' cap' l' W (hS.kept hb) (hF'.kept hb)
  obtain ⟨B, m, hB, hBl⟩ := lineL_shape l
  obtain ⟨B', m', hB', hBl'⟩ := lineL_shape l'
  rw [hB] at h1
  rw [hB'] at h2
  by_cases hc : chkQ (l.map (·.f)) = 0
  · have e0 : mrgE (l.map (·.f)) (l'.map (·.f)) = chkQ (l'.map (·.f)) := by unfold mrgE; rw [if_pos hc]
    rw [e0] at hq ⊢
    rw [hc] at h1
    have hne : (chkQ (l'.map (·.f)) != 0) = true := by simpa using hq
    generalize chkQ (l'.map (·.f)) = ce at *
    have H1 := Hid.mk h1
    have H2 := Hid.mk h2
    clear h1 h2 hS hF hF' hB hB' e0 hc
    go_enter Tryd.func21, Tryd.ntmps21
    go_wp2_with fail
    refine H1.out.mono ?_
    rintro e w1 ⟨rfl, hb1⟩
    have HB1 := Hid.mk hb1
    clear hb1
    go_wp2_with (first | ((with_reducible_and_instances refine wpl_store_line (.tmp 7) (.tmp 15) w1.heap.size (List.replicate 32 zE) B 0 m ?_ ?_ (LnAt.zero w1) hBl ?_); rfl; rfl; intro w5 hL5 hT5; have HB5 := Hid.mk (Tch.below (bl2 HB1.out (below_zero w1)) hT5 (by simp; exact HB1.out.size) (Nat.le_refl _)); clear hL5 hT5))
    refine (H2.out _ HB5.out).mono ?_
    rintro e w6 ⟨rfl, hb6⟩
    have HB6 := Hid.mk (bl2 HB5.out hb6)
    clear hb6
    go_wp2_with (first | ((with_reducible_and_instances refine wpl_store_line (.tmp 9) (.tmp 23) w6.heap.size (List.replicate 32 zE) B' 0 m' ?_ ?_ (LnAt.zero w6) hBl' ?_); rfl; rfl; intro w7 hL7 hT7; have HB7 := Hid.mk (Tch.below (bl2 HB6.out (below_zero w6)) hT7 (by simp; exact HB6.out.size) (Nat.le_refl _)); clear hL7 hT7))
    go_ret3
    exact ⟨rfl, HB7.out⟩
  · have e0 : mrgE (l.map (·.f)) (l'.map (·.f)) = chkQ (l.map (·.f)) := by unfold mrgE; rw [if_neg hc]
    rw [e0]
    have hne : (chkQ (l.map (·.f)) != 0) = true := by simpa using hc
    generalize chkQ (l.map (·.f)) = ce at *
    have H1 := Hid.mk h1
    clear h1 h2 hS hF hF' hB hB' e0 hc hq
    go_enter Tryd.func21, Tryd.ntmps21
    go_wp2_with fail
    refine H1.out.mono ?_
    rintro e w1 ⟨rfl, hb1⟩
    have HB1 := Hid.mk hb1
    clear hb1
    go_wp2_with (first | ((with_reducible_and_instances refine wpl_store_line (.tmp 7) (.tmp 15) w1.heap.size (List.replicate 32 zE) B 0 m ?_ ?_ (LnAt.zero w1) hBl ?_); rfl; rfl; intro w5 hL5 hT5; have HB5 := Hid.mk (Tch.below (bl2 HB1.out (below_zero w1)) hT5 (by simp; exact HB1.out.size) (Nat.le_refl _)); clear hL5 hT5))
    go_ret3
    exact ⟨rfl, HB5.out⟩
set_option maxHeartbeats 2000000 in
set_option maxRecDepth 100000 in
theorem merge_ok (a : Option Addr) (n cap : Nat) (l : List FrV) (a' : Option Addr) (n' cap' : Nat) (l' : List FrV) (w : World) (hS : SizesAt w) (hF : IsFrames w a n cap l) (hF' : IsFrames w a' n' cap' l') (hc : chkQ (l.map (·.f)) = 0) (hc' : chkQ (l'.map (·.f)) = 0) :
    Calls Tryd.prog 21 #[.slice a n cap, .slice a' n' cap'] w fun e w' => ∃ r l2, e = .returned (.tuple #[r, .int .i64 ((n + n' - 16 : Nat) : Int), .int .i64 0]) ∧ l2.map (·.f) = (mrgF (l.map (·.f)) (l'.map (·.f))).take 16 ∧ OwnFrs w' w.heap.size r l2 ∧ Below w.heap.size w w' := by
  obtain ⟨q1, q2, _⟩ := chk_ok hc
  obtain ⟨q1', q2', _⟩ := chk_ok hc'
  rw [List.length_map] at q1 q1'
  have hn := hF.len
  have hn' := hF'.len
  have h1 := lineOf_any a n cap l w hS hF
  have h2 := fun W (hb : Below w.heap.size w W) => lineOf_any a' n' cap' l' W (hS.kept hb) (hF'.kept hb)
  rw [hc, show lineL l = lnC (padA l l.length) l.length by unfold lineL; rw [if_pos hc]] at h1
  rw [hc', show lineL l' = lnC (padA l' l'.length) l'.length by unfold lineL; rw [if_pos hc']] at h2
  have hYa := hF.all
  have hYa' := hF'.all
  have hmem : ∀ u ∈ mrgV l l', u ∈ l ∨ u ∈ l' := mrgV_mem l' l
  have hmlen := mrgV_len l' l
  have hfo := fun W (hb : Below w.heap.size w W) => framesOf_any ((mrgV l l').take 16) (((mrgV l l').drop 16).map entOf ++ List.replicate (32 - l.length - l'.length) zE) W (by simp only [List.length_append, List.length_map, List.length_take, List.length_drop, List.length_replicate]; omega) (fun u hu => by
      rcases hmem u (List.mem_of_mem_take hu) with h | h
      · exact isBytes_below (hYa u h) hb
      · exact isBytes_below (hYa' u h) hb) (fun u hu => by
      rcases hmem u (List.mem_of_mem_take hu) with h | h
      · exact q2 _ (List.mem_map_of_mem h)
      · exact q2' _ (List.mem_map_of_mem h))
  rw [← mg_end] at hfo
  have htl : ((mrgV l l').take 16).length = n + n' - (n + n' - 16) := by rw [List.length_take, hmlen]; omega
  have htf : ((mrgV l l').take 16).map (·.f) = (mrgF (l.map (·.f)) (l'.map (·.f))).take 16 := by rw [List.map_take, mrgV_f]
  rw [htl, htf, hn'] at hfo
  have hwm := fun (k : Nat) (hk : k < l'.length) W => with_mg l l' k W hk q1 q1'
  have hp0 : (padA l l.length) = mgA l l' 0 := (mgA_zero l l').symm
  rw [hp0] at h1
  have hgl : ∀ k, k ≤ n' → (mgA l l' k).length = 32 := fun k hk => mgA_len l l' k (by omega) (by omega)
  have hpl : (padA l' n').length = 32 := padA_len l' n' (by omega) (by omega)
  have hpe : ∀ k (hk : k < l'.length) (hk2 : k < (padA l' n').length), (padA l' n')[k]'hk2 = entOf l'[k] := fun k hk _ => padA_name l' n' k (by omega) (by omega) (by omega)
  rw [hn] at h1
  rw [hn'] at h2
  simp only [hn] at hwm
  have HWM := Hid.mk hwm
  have HFO := Hid.mk hfo
  have H1 := Hid.mk h1
  have H2 := Hid.mk h2
  have HPE := Hid.mk hpe
  have HGL := Hid.mk hgl
  have HPL := Hid.mk hpl
  have q3 : n ≤ 16 := by omega
  have q4 : n' ≤ 16 := by omega
  have HL' := Hid.mk hn'
  clear hF hF' hS hc hc' q2 q2' h1 h2 hYa hYa' hmem hmlen hfo htl htf hwm hp0 hgl hpl hpe hn hn' q1 q1'
  go_enter Tryd.func21, Tryd.ntmps21
  go_wp2_with fail
  refine H1.out.mono ?_
  rintro e w1 ⟨rfl, hb1⟩
  have HB1 := Hid.mk hb1
  clear hb1
  go_wp2_with (first | ((with_reducible_and_instances refine wpl_store_line (.tmp 7) (.tmp 15) w1.heap.size (List.replicate 32 zE) (mgA l l' 0) 0 n ?_ ?_ (LnAt.zero w1) (HGL.out 0 (Nat.zero_le _)) ?_); rfl; rfl; intro w5 hL5 hT5; have HL5 := Hid.mk hL5; have HB5 := Hid.mk (Tch.below (bl2 HB1.out (below_zero w1)) hT5 (by simp; exact HB1.out.size) (Nat.le_refl _)); clear hL5 hT5))
  refine (H2.out _ HB5.out).mono ?_
  rintro e w6 ⟨rfl, hb6⟩
  have HB6 := Hid.mk (bl2 HB5.out hb6)
  have HL6 := Hid.mk (HL5.out.kept (bl2 hb6 (below_zero w6)))
  have hl16 : w1.heap.size < w6.heap.size := (HL5.out.kept hb6).lt
  have hlw : w.heap.size ≤ w1.heap.size := HB1.out.size
  clear hb6
  go_wp2_with (first | ((with_reducible_and_instances refine wpl_store_line (.tmp 9) (.tmp 23) w6.heap.size (List.replicate 32 zE) (padA l' n') 0 n' ?_ ?_ (LnAt.zero w6) HPL.out ?_); rfl; rfl; intro w7 hL7 hT7; have c7 := hL7.size; have HL7 := Hid.mk hL7; have HM7 := Hid.mk (HL6.out.tch hT7 (by simp; omega)); have HB7 := Hid.mk (Tch.below (bl2 HB6.out (below_zero w6)) hT7 (by simp; omega) (Nat.le_refl _)); clear hL7 hT7))
  go_loopw [30] (fun i wr => ∃ (k : Nat), k ≤ n' ∧ i = .int .i64 k ∧ Hid (LnAt wr w1.heap.size (mgA l l' k) ((n + k : Nat) : Int)) ∧ Hid (LnAt wr w6.heap.size (padA l' n') n') ∧ Hid (Below w.heap.size w wr)) (fun i _ => n' - (intOf i).toNat)
  case atStart => exact ⟨0, Nat.zero_le _, rfl, HM7, HL7, HB7⟩
  case round =>
    obtain ⟨k, hk, rfl, HL, HM, HB⟩ := hrel
    by_cases hlt : k < n'
    · have hlt' : (k : Int) < (n' : Int) := by omega
      have hkl : k < l'.length := by have := HL'.out; omega
      have hk0 : (0 : Int) ≤ (k : Int) := by omega
      have hk32 : (k : Int) < 32 := by omega
      have HWK := Hid.mk (fun W => HWM.out k hkl W)
      have hrng : ∀ W, LnAt W w6.heap.size (padA l' n') n' → W.rangeAt w6.heap.size (k * 7) (entOf l'[k]).cells := by
        intro W hW j u hj
        have hj7 : j < 7 := (List.getElem?_eq_some_iff.1 hj).1
        have := hW.cell k j (by omega) hj7
        rw [HPE.out k hkl _] at this
        rw [this]; exact hj
      have HRN := Hid.mk hrng
      clear hrng
      go_wp2_with fail
      refine wp_region_held_drew (S := fun W => LnAt W w6.heap.size (padA l' n') n') (by kernel_rfl) ⟨HM.out.len, HM.out.row⟩ (fun hHeld => ?_)
      refine wpAnyH_take (i := 1) (v := .int .i64 k) rfl (by kernel_rfl) (by kernel_rfl) (by kernel_rfl) (fun _ _ _ h => h) (Or.inl ⟨by rfl, fun _ _ => rfl⟩) hHeld ?_
      simp only [List.getElem_toArray, List.getElem_cons_zero, List.getElem_cons_succ, Act.put, List.setIfInBounds_toArray, List.set_cons_zero, List.set_cons_succ]
      refine wpAnyH_take (i := 2) (v := .pointer (some ⟨w6.heap.size, 0, none⟩)) rfl (by kernel_rfl) (by kernel_rfl) (by kernel_rfl) (fun _ _ _ h => h) (Or.inl ⟨by rfl, fun W hW => by clear hW hHeld; go_simp⟩) hHeld ?_
      simp only [List.getElem_toArray, List.getElem_cons_zero, List.getElem_cons_succ, Act.put, List.setIfInBounds_toArray, List.set_cons_zero, List.set_cons_succ]
      refine wpAnyH_take (i := 3) (v := .pointer (some ⟨w6.heap.size, k * 7, none⟩)) rfl (by kernel_rfl) (by kernel_rfl) (by kernel_rfl) (fun _ _ _ h => h) (Or.inl ⟨by rfl, fun W hW => by clear hW hHeld; go_simp⟩) hHeld ?_
      simp only [List.getElem_toArray, List.getElem_cons_zero, List.getElem_cons_succ, Act.put, List.setIfInBounds_toArray, List.set_cons_zero, List.set_cons_succ]
      refine wpAnyH_take (i := 4) rfl (by kernel_rfl) (by kernel_rfl) (by kernel_rfl) (fun _ _ _ h => h) (yieldsIf_load_mid (by rfl) _ _ rfl w6.heap.size (k * 7) rfl (entOf l'[k]).cells _ (fun W hW => HRN.out W hW) Tryd.underlying52 rfl ent_info) hHeld ?_
      simp only [List.getElem_toArray, List.getElem_cons_zero, List.getElem_cons_succ, Act.put, List.setIfInBounds_toArray, List.set_cons_zero, List.set_cons_succ]
      refine wpAnyH_ready (rs := [0]) (by kernel_rfl) (by simp) ?_
      refine AllReadyH.cons rfl (fun K hK => ?_) AllReadyH.nil
      rw [if_pos (by rfl)]
      refine wp_load_mid 55 (.tmp 7) rfl w1.heap.size 0 rfl (lnC (mgA l l' k) ((n + k : Nat) : Int)) _ (range_line (w := wr.drew) ⟨HL.out.len, HL.out.row⟩) Tryd.underlying55 rfl (by rw [line_info, lnC_len, HL.out.len]) ?_
      refine hK.out _ _ hHeld (fun hHeld1 => ?_)
      clear hK K
      simp only [List.getElem_toArray, List.getElem_cons_zero, Act.put, List.setIfInBounds_toArray, List.set_cons_zero, List.set_cons_succ]
      refine wpAnyH_ready (rs := [5]) (by kernel_rfl) (by simp) ?_
      refine AllReadyH.cons rfl (fun K hK => ?_) AllReadyH.nil
      rw [if_pos (by rfl)]
      generalize hD : (lnC (mgA l l' (k + 1)) ((n + (k + 1) : Nat) : Int)).toArray = D at *
      generalize hD0 : (lnC (mgA l l' k) ((n + k : Nat) : Int)).toArray = D0 at *
      generalize hD1 : (entOf l'[k]).cells.toArray = D1 at *
      go_wp2_with fail
      refine (HWK.out _).mono ?_
      rintro e w2 ⟨rfl, hb2⟩
      have HL2 := Hid.mk (LnAt.kept (w := wr.drew) ⟨HL.out.len, HL.out.row⟩ hb2)
      have HM2 := Hid.mk (LnAt.kept (w := wr.drew) ⟨HM.out.len, HM.out.row⟩ hb2)
      have HB2 := Hid.mk (bl2 (HB.out.trans (show Below w.heap.size wr wr.drew from ⟨rfl, rfl, rfl, Nat.le_refl _, fun _ _ => rfl⟩)) hb2)
      clear hb2
      refine hK.out _ _ HM2.out (fun hHeld2 => ?_)
      clear hK K
      refine wpAnyH_ready (rs := [6]) (by kernel_rfl) (by simp) ?_
      refine AllReadyH.cons rfl (fun K hK => ?_) AllReadyH.nil
      rw [if_pos (by rfl)]
      refine wp_store_line (.tmp 7) (.tmp 38) rfl w1.heap.size (mgA l l' k) (mgA l l' (k + 1)) ((n + k : Nat) : Int) ((n + (k + 1) : Nat) : Int) rfl (by rw [hD]; rfl) HL2.out (HGL.out (k + 1) (by omega)) ?_
      intro w8 hL8 hT8
      refine hK.out _ _ (hHeld2.tch hT8 (by simp; omega)) (fun hHeld8 => ?_)
      clear hK K
      simp only [List.getElem_toArray, List.getElem_cons_zero, List.getElem_cons_succ, Act.put]
      refine wpAnyH_done (by kernel_rfl) ?_ _
      go_wp2_with fail
      go_roundw
      case rel => exact ⟨k + 1, by omega, by go_num, Hid.mk hL8, Hid.mk hHeld8, Hid.mk (Tch.below HB2.out hT8 (by simp; omega) (Nat.le_refl _))⟩
      case measure => simp [intOf]; omega
    · obtain rfl : k = n' := by omega
      have c8 := HL.out.size
      have z8 := HL.out.frozen 224
      obtain ⟨s, hs⟩ : ∃ s, s = n + k := ⟨_, rfl⟩
      rw [← hs] at c8 HFO HL
      have HSS := Hid.mk hs
      have hs32 : s ≤ 32 := by omega
      clear hs
      by_cases h16 : 16 ≤ s
      · have e1 : ((s - (s - 16) : Nat) : Int) = (s : Int) - ((s : Int) - 16) := by omega
        have e2 : (s : Int) - 16 = ((n + k - 16 : Nat) : Int) := by have := HSS.out; omega
        have HE2 := Hid.mk e2
        have hnl : ¬ ((s : Int) - 16 < 0) := by omega
        have hnl2 : (0 : Int) ≤ (s : Int) - 16 := by omega
        have hmx : max ((s : Int) - 16) 0 = (s : Int) - 16 := by omega
        rw [e1] at HFO
        clear e1 e2
        have HL9 := Hid.mk (HL.out.setSize ((s : Int) - ((s : Int) - 16)))
        have HT9 := Hid.mk ((Tch.refl [w1.heap.size] wr).setK (g := w1.heap.size) (by simp) 224 (.int .i64 ((s : Int) - ((s : Int) - 16))))
        have HB9 := Hid.mk (Tch.below HB.out HT9.out (by simp; omega) (Nat.le_refl _))
        go_wp2_with (first | ((with_reducible_and_instances refine wpl_load_line (.tmp 7) w1.heap.size (mgA l l' k) ((s : Int) - ((s : Int) - 16)) ?_ HL9.out ?_); rfl))
        refine (HFO.out _ HB9.out).mono ?_
        rintro e w9 ⟨r, l2, rfl, hf, ho, hb9⟩
        go_wp2_with fail
        go_ret3
        exact ⟨r, l2, by rw [← HE2.out]; rfl, hf, ho.mono HB9.out.size, bl2 HB9.out hb9⟩
      · have e1 : ((s - (s - 16) : Nat) : Int) = (s : Int) := by omega
        have e2 : (0 : Int) = ((n + k - 16 : Nat) : Int) := by have := HSS.out; omega
        have HE2 := Hid.mk e2
        have hgt : (s : Int) - 16 < 0 := by omega
        have hgt2 : ¬ (0 : Int) ≤ (s : Int) - 16 := by omega
        have hmx : max ((s : Int) - 16) 0 = 0 := by omega
        rw [e1] at HFO
        clear e1 e2
        have HL9 := Hid.mk (HL.out.setSize ((s : Int)))
        have HT9 := Hid.mk ((Tch.refl [w1.heap.size] wr).setK (g := w1.heap.size) (by simp) 224 (.int .i64 ((s : Int))))
        have HB9 := Hid.mk (Tch.below HB.out HT9.out (by simp; omega) (Nat.le_refl _))
        go_wp2_with (first | ((with_reducible_and_instances refine wpl_load_line (.tmp 7) w1.heap.size (mgA l l' k) ((s : Int)) ?_ HL9.out ?_); rfl))
        refine (HFO.out _ HB9.out).mono ?_
        rintro e w9 ⟨r, l2, rfl, hf, ho, hb9⟩
        go_wp2_with fail
        go_ret3
        exact ⟨r, l2, by rw [← HE2.out]; rfl, hf, ho.mono HB9.out.size, bl2 HB9.out hb9⟩
end Bw
end Go.Proofs.YthdffdobkampaaaDoor
