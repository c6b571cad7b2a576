/- Joined out of our texts: QputLawE, FramesSized, SizesRow, BruijnRow, QputWalk. -/
import Derived.Test.YthdffdobkampaaaDoorLawQueuePutPAD
import Derived.Test.YthdffdobkampaaaDoorLawQueuePutPAE
import Derived.Shelf.Spec.SlicesInsert
import Derived.Test.YthdffdobkampaaaDoorLawQueuePutPAA
import Derived.Test.YthdffdobkampaaaDoorRows
import Derived.Lib.LaidU8
import Derived.Test.YthdffdobkampaaaDoorIsRow
import Derived.Test.YthdffdobkampaaaDoorRefFrame
/- QueuePut's walk: a queue, a right frame. -/
namespace Go.Proofs.YthdffdobkampaaaDoor
open Go.ChangeShapes Go.WideShapes Go.ChangeAt Go.RowKit
namespace Bw
open Bm Cm
set_option maxHeartbeats 4000000 in
set_option maxRecDepth 100000 in
theorem put_nok (hCF : CheckF) (a : Option Addr) (n cap : Nat) (l : List FrV) (v : FrV) (w : World) (hS : SizesAt w) (hD : w.cell? ⟨4, 1, none⟩ = some (.int .u8 1)) (hF : IsFrames w a n cap l) (hY : IsBytes w v.a v.len v.cap v.f.dt) (hn : n * 48 ≤ 140737488351232) (hd : ∀ u ∈ l, u.len ≤ 140737488351232) (hc : chkQ (l.map (·.f)) = 0) (hE : frE v.f = 0) (hn0 : 0 < n) :
    Calls Tryd.prog 3 #[.slice a n cap, frameV v.f.id v.f.lo v.f.fa v.f.re v.f.sz v.a v.len v.cap] w fun e w' => e = .returned (.bool true) ∧ Below w.heap.size w w' := by
  obtain ⟨⟨id, lo, fa, re, sz, dt⟩, va, vl, vc⟩ := v
  simp only at hY ⊢
  have hb0 := below_box w id lo fa re sz va vl vc
  have HOW := Hid.mk (ownFrames_any a n cap l _ (hF.kept hb0) hn hd)
  have HK0 := Hid.mk (FrAt.box w id lo fa re sz va vl vc)
  have HBB := Hid.mk hb0
  have HF := Hid.mk hF
  have HYV := Hid.mk (show ∀ W, Below w.heap.size w W → IsBytes W va vl vc dt from fun W hb => isBytes_below hY hb)
  have HCQ := Hid.mk (fun W (hW : Below w.heap.size w W) => checkQueue_any hCF a n cap l W (cell_kept hW hD) (hF.kept hW))
  have HQC := Hid.mk (fun W (hW : Below w.heap.size w W) => check_qany a n cap l W (hS.kept hW) (hF.kept hW))
  have HQ := Hid.mk (fun W (hW : Below w.heap.size w W) => queued_any W (hS.kept hW))
  have HS := Hid.mk hS
  have HD := Hid.mk hD
  have HCF := Hid.mk hCF
  have HLEN := Hid.mk hF.len
  unfold frameV
  unfold frameC at HOW HK0 HBB
  clear hb0 hF hY hn hd hS hD hCF
  have HC := Hid.mk hc
  have HE := Hid.mk (show frE ⟨id, lo, fa, re, sz, dt⟩ = 0 from hE)
  have hl16 : l.length ≤ 16 := by obtain ⟨q, _⟩ := chk_ok hc; rw [List.length_map] at q; exact q
  have hn16 : n ≤ 16 := by rw [← HLEN.out]; exact hl16
  have HALL := Hid.mk (show ∀ u ∈ l, frE u.f = 0 from fun u hu => (chk_ok hc).2.1 _ (List.mem_map_of_mem hu))
  clear hc hE hl16
  go_enter Tryd.func3, Tryd.ntmps3
  go_wp2_with fail
  refine HOW.out.mono ?_
  rintro e w1 ⟨r0, l0, rfl, hl0, hf0, ho0, hb1⟩
  obtain ⟨a0, c0, rfl, hI0⟩ := ho0.frames
  rw [hl0] at hI0 ⊢
  have HB1 := Hid.mk (bl2 HBB.out hb1)
  have HK1 := Hid.mk (HK0.out.kept hb1)
  have HI1 := Hid.mk hI0
  have HF0 := Hid.mk hf0
  obtain ⟨k0, k1, k2, k3, k4, k5⟩ := HK1.out
  clear hb1 ho0 hI0 hl0 HOW HBB HK0
  have hleq : ∀ g, leE l0 g = leE l g := fun g => by unfold leE; rw [HF0.out]
  have hl0n : l0.length = l.length := by have := congrArg List.length HF0.out; simpa using this
  have hpeq : ∀ g, putE l0 g = putE l g := fun g => by unfold putE; rw [hleq, hl0n]
  have HLQ := Hid.mk hleq
  have HPQ := Hid.mk hpeq
  have HL0 := Hid.mk hl0n
  clear hleq hl0n hpeq
  have hle : leE l0 ⟨id, lo, fa, re, sz, dt⟩ = frE ⟨id, lo, fa, re, sz, dt⟩ := by rw [HLQ.out]; unfold leE; rw [if_pos HC.out]
  have h2 := Put_any a0 n c0 l0 ⟨⟨id, lo, fa, re, sz, dt⟩, va, vl, vc⟩ w1 (HS.out.kept HB1.out) HI1.out (HYV.out _ HB1.out)
  have h3 := fun W (hW : Below w1.heap.size w1 W) => renew_uni a0 n c0 l0 ⟨⟨id, lo, fa, re, sz, dt⟩, va, vl, vc⟩ W (HS.out.kept (bl2 HB1.out hW)) (HI1.out.kept hW) (HYV.out _ (bl2 HB1.out hW)) (by rw [hle]; exact HE.out)
  obtain ⟨pe, hpe⟩ : ∃ pe, pe = putE l0 ⟨id, lo, fa, re, sz, dt⟩ := ⟨_, rfl⟩
  have hpe2 : pe = if l.length = 16 then 11 else 0 := by rw [hpe]; unfold putE; rw [hle, if_pos HE.out, HL0.out]
  rw [← hpe] at h2
  have HPE := Hid.mk hpe
  have HPE2 := Hid.mk hpe2
  clear hpe hpe2
  have h4 := fun W (hW : Below w1.heap.size w1 W) => take_ok a0 n c0 l0 W (HS.out.kept (bl2 HB1.out hW)) (HI1.out.kept hW) (by rw [HF0.out]; exact HC.out) hn0
  have h5 := fun W (hW : Below w1.heap.size w1 W) => sameFrs_true a0 n c0 l0 a cap l W (HI1.out.kept hW) (HF.out.kept (bl2 HB1.out hW)) HF0.out
  have HCK := Hid.mk (fun W (hW : Below w.heap.size w W) => HCF.out.fr ⟨id, lo, fa, re, sz, dt⟩ va vl vc W (HYV.out _ hW))
  rw [HC.out] at HCQ HQC
  unfold frameV at h2 h3 HCK
  simp only at h2 h3 HCK
  rw [HE.out] at HCK
  have H2 := Hid.mk h2
  have H3 := Hid.mk h3
  have H4 := Hid.mk h4
  have H5 := Hid.mk h5
  clear hle h2 h3 h4 h5
  go_wp2_with fail
  refine H2.out.mono ?_
  rintro e w2 ⟨r1, l1, rfl, ho1, hf1, hnil1, hb2⟩
  obtain ⟨a1, c1, rfl, hP1⟩ := ho1.frames
  have HP2 := Hid.mk hP1
  have HF1 := Hid.mk hf1
  have HN1 := Hid.mk hnil1
  have HB2 := Hid.mk (bl2 HB1.out hb2)
  have HK2 := Hid.mk (HK1.out.kept hb2)
  have HI2 := Hid.mk (HI1.out.kept hb2)
  have HW2 := Hid.mk hb2
  obtain ⟨n1, hn1⟩ : ∃ n1, n1 = l1.length := ⟨_, rfl⟩
  rw [← hn1] at HP2 ⊢
  have HNN1 := Hid.mk hn1
  clear hb2 hnil1 hf1 ho1 hP1 hn1
  clear k0 k1 k2 k3 k4 k5
  obtain ⟨k0, k1, k2, k3, k4, k5⟩ := HK2.out
  go_wp2_with fail
  refine (H3.out _ HW2.out).mono ?_
  rintro e w3 ⟨r2, l2, ge, rfl, ho2, hren, hb3⟩
  obtain ⟨a2, c2, rfl, hR3⟩ := ho2.frames
  obtain ⟨n2, hn2⟩ : ∃ n2, n2 = l2.length := ⟨_, rfl⟩
  rw [← hn2] at hR3 ⊢
  have HNN2 := Hid.mk hn2
  have HR3 := Hid.mk hR3
  have HREN := Hid.mk hren
  have HB3 := Hid.mk (bl2 HB2.out hb3)
  have HK3 := Hid.mk (HK2.out.kept hb3)
  have HI3 := Hid.mk (HI2.out.kept hb3)
  have HP3 := Hid.mk (HP2.out.kept hb3)
  have HW3 := Hid.mk (bl2 HW2.out hb3)
  clear hb3 hren ho2 hR3 hn2
  clear k0 k1 k2 k3 k4 k5
  go_wp2_with fail
  refine (H4.out _ HW3.out).mono ?_
  rintro e w4 ⟨u, xt, ct, lt, rfl, hft, hYt, hFt, hb4⟩
  obtain ⟨⟨ti, tl, tf, tr, ts, td⟩, ta, tn, tc⟩ := u
  simp only at hft hYt
  have hbz := below_box w4 ti tl tf tr ts ta tn tc
  have hb4' := bl2 hb4 hbz
  have HZ4 := Hid.mk (FrAt.box w4 ti tl tf tr ts ta tn tc)
  have HB4 := Hid.mk (bl2 HB3.out hb4')
  have HK4 := Hid.mk (HK3.out.kept hb4')
  have HI4 := Hid.mk (HI3.out.kept hb4')
  have HP4 := Hid.mk (HP3.out.kept hb4')
  have HR4 := Hid.mk (HR3.out.kept hb4')
  have HW4 := Hid.mk (bl2 HW3.out hb4')
  have HYT4 := Hid.mk (isBytes_below hYt hbz)
  have HT4 := Hid.mk (hFt.kept hbz)
  have HFT := Hid.mk hft
  unfold frameC at HB4 HK4 HI4 HW4 HZ4 HYT4 HT4 HP4 HR4
  clear hb4 hb4' hbz hft hYt hFt
  simp only [FrV.cells]
  go_wp2_with fail
  refine (HCQ.out _ HB4.out).mono ?_
  rintro e w5 ⟨rfl, hb5⟩
  have HB5 := Hid.mk (bl2 HB4.out hb5)
  have HK5 := Hid.mk (HK4.out.kept hb5)
  have HI5 := Hid.mk (HI4.out.kept hb5)
  have HP5 := Hid.mk (HP4.out.kept hb5)
  have HR5 := Hid.mk (HR4.out.kept hb5)
  have HZ5 := Hid.mk (HZ4.out.kept hb5)
  have HT5 := Hid.mk (HT4.out.kept hb5)
  have HW5 := Hid.mk (bl2 HW4.out hb5)
  have HYT5 := Hid.mk (isBytes_below HYT4.out hb5)
  clear hb5
  go_wp2_with fail
  refine (HQ.out _ HB5.out).mono ?_
  rintro e w6 ⟨rfl, hb6⟩
  have HB6 := Hid.mk (bl2 HB5.out hb6)
  have HK6 := Hid.mk (HK5.out.kept hb6)
  have HI6 := Hid.mk (HI5.out.kept hb6)
  have HP6 := Hid.mk (HP5.out.kept hb6)
  have HR6 := Hid.mk (HR5.out.kept hb6)
  have HZ6 := Hid.mk (HZ5.out.kept hb6)
  have HT6 := Hid.mk (HT5.out.kept hb6)
  have HW6 := Hid.mk (bl2 HW5.out hb6)
  have HYT6 := Hid.mk (isBytes_below HYT5.out hb6)
  clear hb6
  go_wp2_with fail
  refine (HQC.out _ HB6.out).mono ?_
  rintro e w7 ⟨rfl, hb7⟩
  have HB7 := Hid.mk (bl2 HB6.out hb7)
  have HK7 := Hid.mk (HK6.out.kept hb7)
  have HI7 := Hid.mk (HI6.out.kept hb7)
  have HP7 := Hid.mk (HP6.out.kept hb7)
  have HR7 := Hid.mk (HR6.out.kept hb7)
  have HZ7 := Hid.mk (HZ6.out.kept hb7)
  have HT7 := Hid.mk (HT6.out.kept hb7)
  have HW7 := Hid.mk (bl2 HW6.out hb7)
  have HYT7 := Hid.mk (isBytes_below HYT6.out hb7)
  clear hb7
  go_wp2_with fail
  refine (H5.out _ HW7.out).mono ?_
  rintro e w8 ⟨rfl, hb8⟩
  have HB8 := Hid.mk (bl2 HB7.out hb8)
  have HK8 := Hid.mk (HK7.out.kept hb8)
  have HI8 := Hid.mk (HI7.out.kept hb8)
  have HP8 := Hid.mk (HP7.out.kept hb8)
  have HR8 := Hid.mk (HR7.out.kept hb8)
  have HZ8 := Hid.mk (HZ7.out.kept hb8)
  have HT8 := Hid.mk (HT7.out.kept hb8)
  have HW8 := Hid.mk (bl2 HW7.out hb8)
  have HYT8 := Hid.mk (isBytes_below HYT7.out hb8)
  clear hb8
  cases a with
  | none => exact absurd (HF.out.none rfl) (by omega)
  | some y =>
    have hk0 : 0 < l.length := by rw [HLEN.out]; exact hn0
    have qq := fun (j : Nat) (hj : j < 6) => cell_kept HB8.out (HF.out.cell y rfl 0 hk0 j hj)
    have hbq := isBytes_below (HF.out.bytes 0 hk0) (show Below w.heap.size w w8 from HB8.out)
    have hfl : ⟨ti, tl, tf, tr, ts, td⟩ :: lt.map (·.f) = l.map (·.f) := HFT.out.trans HF0.out
    have hlc : l = l[0] :: l.drop 1 := by
      cases l with
      | nil => exact absurd hk0 (Nat.not_lt_zero _)
      | cons u l => rfl
    have hf0 : l[0].f = ⟨ti, tl, tf, tr, ts, td⟩ := by
      rw [hlc, List.map_cons] at hfl
      injection hfl with h1 h2
      exact h1.symm
    have hft1 : lt.map (·.f) = (l.drop 1).map (·.f) := by
      rw [hlc, List.map_cons] at hfl
      injection hfl with h1 h2
    have hFd := frames_drop (HF.out.kept HB8.out) 1 (by omega)
    have hsl := fun W => slice_fr y n cap 1 (by omega) W
    rw [show ((1 : Nat) : Int) = 1 from rfl] at hsl
    generalize (if cap = 1 then y else y.add (1 * 6)) = y2 at *
    have ey : y.add (0 * 6 + 0) = y := by unfold Addr.add; simp
    have eyj : ∀ j, y.add (0 * 6 + (j + 1)) = ⟨y.block, y.off + (j + 1), none⟩ := fun j => by unfold Addr.add; simp
    generalize l[0] = u at *
    obtain ⟨f', ua, ul, uc⟩ := u
    simp only at hf0 hbq
    subst hf0
    have q0 := qq 0 (by omega)
    have q1 := qq 1 (by omega)
    have q2 := qq 2 (by omega)
    have q3 := qq 3 (by omega)
    have q4 := qq 4 (by omega)
    have q5 := qq 5 (by omega)
    rw [ey] at q0
    rw [eyj] at q1 q2 q3 q4 q5
    simp only [FrV.cells, List.getElem_cons_zero, List.getElem_cons_succ, Nat.reduceAdd] at q0 q1 q2 q3 q4 q5
    have rf0 := fun d os => (HZ8.out.regrownQ d os).c0
    have rf1 := fun d os => (HZ8.out.regrownQ d os).c1
    have rf2 := fun d os => (HZ8.out.regrownQ d os).c2
    have rf3 := fun d os => (HZ8.out.regrownQ d os).c3
    have rf4 := fun d os => (HZ8.out.regrownQ d os).c4
    have rf5 := fun d os => (HZ8.out.regrownQ d os).c5
    have rg0 := fun d os => cell_reg q0 d os
    have rg1 := fun d os => cell_reg q1 d os
    have rg2 := fun d os => cell_reg q2 d os
    have rg3 := fun d os => cell_reg q3 d os
    have rg4 := fun d os => cell_reg q4 d os
    have rg5 := fun d os => cell_reg q5 d os
    have HSM := Hid.mk (fun d os => sameFrame_true ⟨ti, tl, tf, tr, ts, td⟩ ta ua tn tc ul uc (Go.Sort.grow (redrawn w8 d) os) (isBytes_below HYT8.out (below_regrown w8 d os)) (isBytes_below hbq (below_regrown w8 d os)))
    have HSF := Hid.mk (fun d os => sameFrs_true (some xt) (n - 1) ct lt (some y2) (cap - 1) (l.drop 1) (Go.Sort.grow (redrawn w8 d) os) (HT8.out.kept (below_regrown w8 d os)) (hFd.kept (below_regrown w8 d os)) hft1)
    unfold frameV at HSM
    simp only at HSM
    have hn1' : (1 : Int) ≤ (n : Int) := by omega
    have hn0' : (0 : Int) < (n : Int) := by omega
    have hnb : ((n : Int) == 0) = false := by simp; omega
    clear qq hbq hfl hlc hft1 hFd ey eyj q0 q1 q2 q3 q4 q5
    go_wp2_with fail
    refine wp_region_quiet_below (by kernel_rfl) (by kernel_rfl) ?_
    repeat (go_big_quiet_step (first
      | (go_at_call 16; with_reducible_and_instances exact Calls.regrown_of (HSM.out _ _))
      | (go_at_call 14; with_reducible_and_instances exact Calls.regrown_of (HSF.out _ _))))
    refine wpQuiet_nil ?_
    intro _ hw'
    obtain ⟨⟨dq, osq⟩, hw''⟩ := hw'
    have hb9 := below_regrown w8 dq osq
    rw [hw'']
    generalize Go.Sort.grow (redrawn w8 dq) osq = w9 at *
    have HB9 := Hid.mk (bl2 HB8.out hb9)
    have HK9 := Hid.mk (HK8.out.kept hb9)
    have HI9 := Hid.mk (HI8.out.kept hb9)
    have HP9 := Hid.mk (HP8.out.kept hb9)
    have HR9 := Hid.mk (HR8.out.kept hb9)
    clear hw'' hb9 rf0 rf1 rf2 rf3 rf4 rf5 rg0 rg1 rg2 rg3 rg4 rg5 HSM HSF hsl
    obtain ⟨k0, k1, k2, k3, k4, k5⟩ := HK9.out
    go_wp2_with fail
    refine (HCK.out _ HB9.out).mono ?_
    rintro e w10 ⟨rfl, hb10⟩
    have HB10 := Hid.mk (bl2 HB9.out hb10)
    have HK10 := Hid.mk (HK9.out.kept hb10)
    have HI10 := Hid.mk (HI9.out.kept hb10)
    have HP10 := Hid.mk (HP9.out.kept hb10)
    have HR10 := Hid.mk (HR9.out.kept hb10)
    clear hb10 k0 k1 k2 k3 k4 k5
    obtain ⟨k0, k1, k2, k3, k4, k5⟩ := HK10.out
    have hidr := frE_ok HE.out
    simp only at hidr
    have HNA := Hid.mk (fun W (hW : Below w.heap.size w W) => nameOf_any ⟨id, lo, fa, re, sz, dt⟩ va vl vc W (cell_kept hW HD.out) hidr.1 hidr.2.1)
    unfold frameV at HNA
    simp only at HNA
    clear hidr
    obtain ⟨nm, hnm⟩ : ∃ nm, nm = nameL ⟨id, lo, fa, re, sz, dt⟩ := ⟨_, rfl⟩
    rw [← hnm] at HNA
    have HNM := Hid.mk hnm
    clear hnm
    by_cases h16 : n = 16
    · have hpe11 : pe = 11 := by rw [HPE2.out, if_pos (by rw [HLEN.out]; exact h16)]
      subst hpe11
      have hl1 : l1 = [] := (HN1.out (by decide)).2
      have hn10 : n1 = 0 := by rw [HNN1.out, hl1]; rfl
      subst hn10
      clear hl1
      have h16b : ((n : Int) == 16) = true := by simp; omega
      clear h16
      clear k0 k1 k2 k3 k4 k5
      go_wp2_with fail
      go_loopw [166] (fun i wr => ∃ (k : Nat), k ≤ n ∧ i = .int .i64 k ∧ Hid (∀ j (hj : j < l.length), j < k → nameL l[j].f ≠ nm) ∧ Hid (FrAt wr w.heap.size id lo fa re sz va vl vc) ∧ Hid (IsFrames wr a1 0 c1 l1) ∧ Hid (IsFrames wr a2 n2 c2 l2) ∧ Hid (Below w.heap.size w wr)) (fun i _ => n - (intOf i).toNat)
      case atStart => exact ⟨0, Nat.zero_le _, rfl, Hid.mk (fun j hj h => absurd h (Nat.not_lt_zero _)), HK10, HP10, HR10, HB10⟩
      case round =>
        obtain ⟨k, hk, rfl, HNO, HK, HP, HR, HB⟩ := hrel
        by_cases hlt : k < n
        · have hlt' : (k : Int) < (n : Int) := by omega
          have hkl : k < l.length := by rw [HLEN.out]; exact hlt
          have cc := fun (j : Nat) (hj : j < 6) => cell_kept HB.out (HF.out.cell y rfl k hkl j hj)
          have hE1 := HALL.out _ (List.getElem_mem hkl)
          have hname : ∃ pn, pn = nameL l[k].f := ⟨_, rfl⟩
          obtain ⟨pn, hpn⟩ := hname
          have HPN := Hid.mk hpn
          have hn2 := fun W (hW : Below w.heap.size w W) (h1 : 0 ≤ l[k].f.id) (h2 : l[k].f.id ≤ topI l[k].f.lo) => nameOf_any l[k].f l[k].a l[k].len l[k].cap W (cell_kept hW HD.out) h1 h2
          rw [← hpn] at hn2
          have hidk := frE_ok hE1
          have HN2 := Hid.mk (fun W (hW : Below w.heap.size w W) => hn2 W hW hidk.1 hidk.2.1)
          clear hpn hn2 hidk hE1
          generalize l[k] = u at cc HN2
          obtain ⟨⟨id', lo', fa', re', sz', dt'⟩, ua, ul, uc⟩ := u
          have cl0 := cc 0 (by omega)
          have cl1 := cc 1 (by omega)
          have cl2 := cc 2 (by omega)
          have cl3 := cc 3 (by omega)
          have cl4 := cc 4 (by omega)
          have cl5 := cc 5 (by omega)
          rw [add_nextQ] at cl1 cl2 cl3 cl4 cl5
          rw [Nat.add_zero] at cl0
          simp only [FrV.cells, List.getElem_cons_zero, List.getElem_cons_succ, Nat.reduceAdd] at cl0 cl1 cl2 cl3 cl4 cl5
          have hb2 := below_box wr id' lo' fa' re' sz' ua ul uc
          have HK2 := Hid.mk (FrAt.box wr id' lo' fa' re' sz' ua ul uc)
          have HK1 := Hid.mk (HK.out.kept hb2)
          have HB2 := Hid.mk (bl2 HB.out hb2)
          have HP2 := Hid.mk (HP.out.kept hb2)
          have HR2 := Hid.mk (HR.out.kept hb2)
          unfold frameV at HN2
          simp only at HN2
          unfold frameC at HK2 HK1 HB2 HP2 HR2
          clear cc hb2
          go_wp2_with fail
          generalize hw2 : wr.alloc (Obj.cells #[.int .i64 id', .bool lo', .bool fa', .bool re', .int .i64 sz', .slice ua ul uc] 25) = w13 at *
          clear hw2 cl0 cl1 cl2 cl3 cl4 cl5
          have rf0 := fun d os => (HK1.out.regrownQ d os).c0
          have rf1 := fun d os => (HK1.out.regrownQ d os).c1
          have rf2 := fun d os => (HK1.out.regrownQ d os).c2
          have rf3 := fun d os => (HK1.out.regrownQ d os).c3
          have rf4 := fun d os => (HK1.out.regrownQ d os).c4
          have rf5 := fun d os => (HK1.out.regrownQ d os).c5
          have rg0 := fun d os => (HK2.out.regrownQ d os).c0
          have rg1 := fun d os => (HK2.out.regrownQ d os).c1
          have rg2 := fun d os => (HK2.out.regrownQ d os).c2
          have rg3 := fun d os => (HK2.out.regrownQ d os).c3
          have rg4 := fun d os => (HK2.out.regrownQ d os).c4
          have rg5 := fun d os => (HK2.out.regrownQ d os).c5
          have HBR := Hid.mk (fun d os => bl2 HB2.out (below_regrown w13 d os))
          by_cases he : pn = nm
          · have hbe : ((ByteArray.mk pn.toArray).toList == (ByteArray.mk nm.toArray).toList) = true := by rw [he]; simp
            have hbe2 : (pn == nm) = true := by rw [he]; simp
            have HEQ := Hid.mk he
            clear he
            refine wp_region_quiet_below (by kernel_rfl) (by kernel_rfl) ?_
            repeat (go_big_quiet_step (first
              | (go_at_call 19; with_reducible_and_instances exact Calls.regrown_of (HNA.out _ (HBR.out _ _)))
              | (go_at_call 19; with_reducible_and_instances exact Calls.regrown_of (HN2.out _ (HBR.out _ _)))))
            refine wpQuiet_nil ?_
            intro _ hw'
            obtain ⟨⟨dq, osq⟩, hw''⟩ := hw'
            have hbq := below_regrown w13 dq osq
            rw [hw'']
            generalize Go.Sort.grow (redrawn w13 dq) osq = w14 at *
            have HB14 := Hid.mk (bl2 HB2.out hbq)
            have HK14 := Hid.mk (HK1.out.kept hbq)
            have HP14 := Hid.mk (HP2.out.kept hbq)
            have HR14 := Hid.mk (HR2.out.kept hbq)
            clear hw'' hbq rf0 rf1 rf2 rf3 rf4 rf5 rg0 rg1 rg2 rg3 rg4 rg5 HBR
            have hcl := clone_any (some y) n cap l w14 (HF.out.kept HB14.out) (by omega)
            have HCL := Hid.mk hcl
            have hfst : FirstAt l ⟨⟨id, lo, fa, re, sz, dt⟩, va, vl, vc⟩ k := ⟨hkl, by rw [← HPN.out, HEQ.out, HNM.out], fun j hj hjk => by have := HNO.out j hj hjk; rw [HNM.out] at this; exact this⟩
            obtain ⟨hge, hf2⟩ := HREN.out.hit k (firstAt_of HF0.out hfst)
            subst hge
            have hn2 : n2 = n := by rw [HNN2.out, ← List.length_map (f := fun u : FrV => u.f), hf2, List.length_set, List.length_map, HL0.out, HLEN.out]
            subst hn2
            have HF2 := Hid.mk hf2
            clear hcl hfst hf2
            go_wp2_with fail
            refine HCL.out.mono ?_
            rintro e w15 ⟨r3, rfl, ho3, hb15⟩
            obtain ⟨g, c3, rfl, hgb⟩ : ∃ g c3, r3 = .slice (some ⟨g, 0, none⟩) n2 c3 ∧ w14.heap.size ≤ g := by
              rcases ho3.2 with ⟨_, h2⟩ | ⟨g, c3, cur, h1, h2, _⟩
              · omega
              · exact ⟨g, c3, h1, h2⟩
            have HK15 := Hid.mk (HK14.out.kept hb15)
            have HB15 := Hid.mk (bl2 HB14.out hb15)
            have HR15 := Hid.mk (HR14.out.kept hb15)
            have HR14b := Hid.mk hb15
            have HO3 := Hid.mk ho3
            have hkg : w.heap.size < g := Nat.lt_of_lt_of_le (block_lt_of_cell HK14.out.c0) hgb
            obtain ⟨k0, k1, k2, k3, k4, k5⟩ := HK15.out
            have HGB := Hid.mk hgb
            clear hb15 ho3 hgb
            go_wp2_with (first | ((with_reducible_and_instances refine wpl_store_row (.tmp 181) (.tmp 180) w14.heap.size g (k * 6) n2 c3 k l ⟨⟨id, lo, fa, re, sz, dt⟩, va, vl, vc⟩ ?_ ?_ HO3.out HLEN.out rfl hlt ?_); rfl; rfl; intro w16 hO16 hT16; have HO16 := Hid.mk hO16; have HT16 := Hid.mk hT16; clear hO16 hT16))
            have hb16 : Below w14.heap.size w14 w16 := Tch.below HR14b.out HT16.out (by simp; exact HGB.out) (Nat.le_refl _)
            have hB16 := bl2 HB14.out hb16
            obtain ⟨aw, cw, hsw, hFw⟩ := frames_of_row HO16.out (by rw [List.length_set]; exact HLEN.out) (fun q hq => by
              rcases List.mem_or_eq_of_mem_set hq with h | h
              · exact isBytes_below (HF.out.all q h) hB16
              · rw [h]; exact HYV.out _ hB16)
            have hse := sameFrs_true a2 n2 c2 l2 aw cw (l.set k ⟨⟨id, lo, fa, re, sz, dt⟩, va, vl, vc⟩) w16 (HR14.out.kept hb16) hFw (by rw [HF2.out, HF0.out, List.map_set])
            injection hsw with e1 e2 e3
            subst e1
            subst e3
            refine hse.mono ?_
            rintro e w17 ⟨rfl, hb17⟩
            have HB17 := Hid.mk (bl2 hB16 hb17)
            clear hb16 hB16 hFw hse hb17 k0 k1 k2 k3 k4 k5
            go_wp2_with fail
            go_ret
            exact ⟨rfl, HB17.out⟩
          · have hbe : ((ByteArray.mk pn.toArray).toList == (ByteArray.mk nm.toArray).toList) = false := by
              rw [ByteArray.toList_eq, ByteArray.toList_eq]
              simpa using he
            have hbe2 : (pn == nm) = false := by simpa using he
            have HNE2 := Hid.mk (show ∀ j (hj : j < l.length), j < k + 1 → nameL l[j].f ≠ nm from fun j hj h => by
              by_cases e : j = k
              · subst e; rw [← HPN.out]; exact he
              · exact HNO.out j hj (by omega))
            clear he
            refine wp_region_quiet_below (by kernel_rfl) (by kernel_rfl) ?_
            repeat (go_big_quiet_step (first
              | (go_at_call 19; with_reducible_and_instances exact Calls.regrown_of (HNA.out _ (HBR.out _ _)))
              | (go_at_call 19; with_reducible_and_instances exact Calls.regrown_of (HN2.out _ (HBR.out _ _)))))
            refine wpQuiet_nil ?_
            intro _ hw'
            obtain ⟨⟨dq, osq⟩, hw''⟩ := hw'
            have hbq := below_regrown w13 dq osq
            rw [hw'']
            generalize Go.Sort.grow (redrawn w13 dq) osq = w14 at *
            have HB14 := Hid.mk (bl2 HB2.out hbq)
            have HK14 := Hid.mk (HK1.out.kept hbq)
            have HP14 := Hid.mk (HP2.out.kept hbq)
            have HR14 := Hid.mk (HR2.out.kept hbq)
            clear hw'' hbq rf0 rf1 rf2 rf3 rf4 rf5 rg0 rg1 rg2 rg3 rg4 rg5 HBR
            go_wp2_with fail
            go_roundw
            case rel => exact ⟨k + 1, by omega, by go_num, HNE2, HK14, HP14, HR14, HB14⟩
            case measure => simp [intOf]; omega
        · obtain rfl : k = n := by omega
          have hmiss := miss_of (v := ⟨⟨id, lo, fa, re, sz, dt⟩, va, vl, vc⟩) HF0.out (fun j hj => by
            have := HNO.out j hj (by rw [HLEN.out] at hj; omega)
            rw [HNM.out] at this
            exact this)
          obtain ⟨hge, hz, hnz⟩ := HREN.out.miss hmiss
          rw [← HPE.out] at hge hz hnz
          subst hge
          have hl2 : l2 = [] := (hnz (by decide)).2
          have hn2 : n2 = 0 := by rw [HNN2.out, hl2]; rfl
          have hl1 : l1 = [] := List.eq_nil_of_length_eq_zero HP.out.len
          subst hn2
          have HSE := Hid.mk (sameFrs_true a2 0 c2 l2 a1 c1 l1 wr HR.out HP.out (by rw [hl2, hl1]))
          clear hl2 hl1 hz hnz hmiss
          go_wp2_with fail
          refine HSE.out.mono ?_
          rintro e w20 ⟨rfl, hb20⟩
          have HB20 := Hid.mk (bl2 HB.out hb20)
          clear hb20
          go_wp2_with fail
          go_ret
          exact ⟨rfl, HB20.out⟩
    · have h16b : ((n : Int) == 16) = false := by simp; omega
      have hpe0 : pe = 0 := by rw [HPE2.out, if_neg (by rw [HLEN.out]; exact h16)]
      subst hpe0
      have HF1b := Hid.mk (HF1.out rfl)
      have hl1 : n1 = n + 1 := by rw [HNN1.out, ← List.length_map (f := fun u : FrV => u.f), HF1.out rfl, putF_len, List.length_map, HL0.out, HLEN.out]
      subst hl1
      have HPF := Hid.mk (fun W (hW : Below w.heap.size w W) => putFrame_any (some y) n cap l ⟨⟨id, lo, fa, re, sz, dt⟩, va, vl, vc⟩ W (cell_kept hW HD.out) (HF.out.kept hW) (by omega) (HYV.out _ hW) HALL.out HE.out)
      unfold frameV at HPF
      simp only at HPF
      go_wp2_with fail
      refine (HPF.out _ HB10.out).mono ?_
      rintro e w11 ⟨rp, cp, rfl, hPF, hb11⟩
      have HB11 := Hid.mk (bl2 HB10.out hb11)
      have HK11 := Hid.mk (HK10.out.kept hb11)
      have HI11 := Hid.mk (HI10.out.kept hb11)
      have HP11 := Hid.mk (HP10.out.kept hb11)
      have HR11 := Hid.mk (HR10.out.kept hb11)
      have HSP := Hid.mk (sameFrs_true a1 (n + 1) c1 l1 rp cp (putV l ⟨⟨id, lo, fa, re, sz, dt⟩, va, vl, vc⟩) w11 HP11.out hPF (by rw [HF1b.out, putV_f, HF0.out]))
      clear hb11 hPF k0 k1 k2 k3 k4 k5
      go_wp2_with fail
      refine HSP.out.mono ?_
      rintro e w12 ⟨rfl, hb12⟩
      have HB12 := Hid.mk (bl2 HB11.out hb12)
      have HK12 := Hid.mk (HK11.out.kept hb12)
      have HI12 := Hid.mk (HI11.out.kept hb12)
      have HP12 := Hid.mk (HP11.out.kept hb12)
      have HR12 := Hid.mk (HR11.out.kept hb12)
      clear hb12 HSP
      go_wp2_with fail
      go_loopw [166] (fun i wr => ∃ (k : Nat), k ≤ n ∧ i = .int .i64 k ∧ Hid (∀ j (hj : j < l.length), j < k → nameL l[j].f ≠ nm) ∧ Hid (FrAt wr w.heap.size id lo fa re sz va vl vc) ∧ Hid (IsFrames wr a1 (n + 1) c1 l1) ∧ Hid (IsFrames wr a2 n2 c2 l2) ∧ Hid (Below w.heap.size w wr)) (fun i _ => n - (intOf i).toNat)
      case atStart => exact ⟨0, Nat.zero_le _, rfl, Hid.mk (fun j hj h => absurd h (Nat.not_lt_zero _)), HK12, HP12, HR12, HB12⟩
      case round =>
        obtain ⟨k, hk, rfl, HNO, HK, HP, HR, HB⟩ := hrel
        by_cases hlt : k < n
        · have hlt' : (k : Int) < (n : Int) := by omega
          have hkl : k < l.length := by rw [HLEN.out]; exact hlt
          have cc := fun (j : Nat) (hj : j < 6) => cell_kept HB.out (HF.out.cell y rfl k hkl j hj)
          have hE1 := HALL.out _ (List.getElem_mem hkl)
          have hname : ∃ pn, pn = nameL l[k].f := ⟨_, rfl⟩
          obtain ⟨pn, hpn⟩ := hname
          have HPN := Hid.mk hpn
          have hn2 := fun W (hW : Below w.heap.size w W) (h1 : 0 ≤ l[k].f.id) (h2 : l[k].f.id ≤ topI l[k].f.lo) => nameOf_any l[k].f l[k].a l[k].len l[k].cap W (cell_kept hW HD.out) h1 h2
          rw [← hpn] at hn2
          have hidk := frE_ok hE1
          have HN2 := Hid.mk (fun W (hW : Below w.heap.size w W) => hn2 W hW hidk.1 hidk.2.1)
          clear hpn hn2 hidk hE1
          generalize l[k] = u at cc HN2
          obtain ⟨⟨id', lo', fa', re', sz', dt'⟩, ua, ul, uc⟩ := u
          have cl0 := cc 0 (by omega)
          have cl1 := cc 1 (by omega)
          have cl2 := cc 2 (by omega)
          have cl3 := cc 3 (by omega)
          have cl4 := cc 4 (by omega)
          have cl5 := cc 5 (by omega)
          rw [add_nextQ] at cl1 cl2 cl3 cl4 cl5
          rw [Nat.add_zero] at cl0
          simp only [FrV.cells, List.getElem_cons_zero, List.getElem_cons_succ, Nat.reduceAdd] at cl0 cl1 cl2 cl3 cl4 cl5
          have hb2 := below_box wr id' lo' fa' re' sz' ua ul uc
          have HK2 := Hid.mk (FrAt.box wr id' lo' fa' re' sz' ua ul uc)
          have HK1 := Hid.mk (HK.out.kept hb2)
          have HB2 := Hid.mk (bl2 HB.out hb2)
          have HP2 := Hid.mk (HP.out.kept hb2)
          have HR2 := Hid.mk (HR.out.kept hb2)
          unfold frameV at HN2
          simp only at HN2
          unfold frameC at HK2 HK1 HB2 HP2 HR2
          clear cc hb2
          go_wp2_with fail
          generalize hw2 : wr.alloc (Obj.cells #[.int .i64 id', .bool lo', .bool fa', .bool re', .int .i64 sz', .slice ua ul uc] 25) = w13 at *
          clear hw2 cl0 cl1 cl2 cl3 cl4 cl5
          have rf0 := fun d os => (HK1.out.regrownQ d os).c0
          have rf1 := fun d os => (HK1.out.regrownQ d os).c1
          have rf2 := fun d os => (HK1.out.regrownQ d os).c2
          have rf3 := fun d os => (HK1.out.regrownQ d os).c3
          have rf4 := fun d os => (HK1.out.regrownQ d os).c4
          have rf5 := fun d os => (HK1.out.regrownQ d os).c5
          have rg0 := fun d os => (HK2.out.regrownQ d os).c0
          have rg1 := fun d os => (HK2.out.regrownQ d os).c1
          have rg2 := fun d os => (HK2.out.regrownQ d os).c2
          have rg3 := fun d os => (HK2.out.regrownQ d os).c3
          have rg4 := fun d os => (HK2.out.regrownQ d os).c4
          have rg5 := fun d os => (HK2.out.regrownQ d os).c5
          have HBR := Hid.mk (fun d os => bl2 HB2.out (below_regrown w13 d os))
          by_cases he : pn = nm
          · have hbe : ((ByteArray.mk pn.toArray).toList == (ByteArray.mk nm.toArray).toList) = true := by rw [he]; simp
            have hbe2 : (pn == nm) = true := by rw [he]; simp
            have HEQ := Hid.mk he
            clear he
            refine wp_region_quiet_below (by kernel_rfl) (by kernel_rfl) ?_
            repeat (go_big_quiet_step (first
              | (go_at_call 19; with_reducible_and_instances exact Calls.regrown_of (HNA.out _ (HBR.out _ _)))
              | (go_at_call 19; with_reducible_and_instances exact Calls.regrown_of (HN2.out _ (HBR.out _ _)))))
            refine wpQuiet_nil ?_
            intro _ hw'
            obtain ⟨⟨dq, osq⟩, hw''⟩ := hw'
            have hbq := below_regrown w13 dq osq
            rw [hw'']
            generalize Go.Sort.grow (redrawn w13 dq) osq = w14 at *
            have HB14 := Hid.mk (bl2 HB2.out hbq)
            have HK14 := Hid.mk (HK1.out.kept hbq)
            have HP14 := Hid.mk (HP2.out.kept hbq)
            have HR14 := Hid.mk (HR2.out.kept hbq)
            clear hw'' hbq rf0 rf1 rf2 rf3 rf4 rf5 rg0 rg1 rg2 rg3 rg4 rg5 HBR
            have hcl := clone_any (some y) n cap l w14 (HF.out.kept HB14.out) (by omega)
            have HCL := Hid.mk hcl
            have hfst : FirstAt l ⟨⟨id, lo, fa, re, sz, dt⟩, va, vl, vc⟩ k := ⟨hkl, by rw [← HPN.out, HEQ.out, HNM.out], fun j hj hjk => by have := HNO.out j hj hjk; rw [HNM.out] at this; exact this⟩
            obtain ⟨hge, hf2⟩ := HREN.out.hit k (firstAt_of HF0.out hfst)
            subst hge
            have hn2 : n2 = n := by rw [HNN2.out, ← List.length_map (f := fun u : FrV => u.f), hf2, List.length_set, List.length_map, HL0.out, HLEN.out]
            subst hn2
            have HF2 := Hid.mk hf2
            clear hcl hfst hf2
            go_wp2_with fail
            refine HCL.out.mono ?_
            rintro e w15 ⟨r3, rfl, ho3, hb15⟩
            obtain ⟨g, c3, rfl, hgb⟩ : ∃ g c3, r3 = .slice (some ⟨g, 0, none⟩) n2 c3 ∧ w14.heap.size ≤ g := by
              rcases ho3.2 with ⟨_, h2⟩ | ⟨g, c3, cur, h1, h2, _⟩
              · omega
              · exact ⟨g, c3, h1, h2⟩
            have HK15 := Hid.mk (HK14.out.kept hb15)
            have HB15 := Hid.mk (bl2 HB14.out hb15)
            have HR15 := Hid.mk (HR14.out.kept hb15)
            have HR14b := Hid.mk hb15
            have HO3 := Hid.mk ho3
            have hkg : w.heap.size < g := Nat.lt_of_lt_of_le (block_lt_of_cell HK14.out.c0) hgb
            obtain ⟨k0, k1, k2, k3, k4, k5⟩ := HK15.out
            have HGB := Hid.mk hgb
            clear hb15 ho3 hgb
            go_wp2_with (first | ((with_reducible_and_instances refine wpl_store_row (.tmp 181) (.tmp 180) w14.heap.size g (k * 6) n2 c3 k l ⟨⟨id, lo, fa, re, sz, dt⟩, va, vl, vc⟩ ?_ ?_ HO3.out HLEN.out rfl hlt ?_); rfl; rfl; intro w16 hO16 hT16; have HO16 := Hid.mk hO16; have HT16 := Hid.mk hT16; clear hO16 hT16))
            have hb16 : Below w14.heap.size w14 w16 := Tch.below HR14b.out HT16.out (by simp; exact HGB.out) (Nat.le_refl _)
            have hB16 := bl2 HB14.out hb16
            obtain ⟨aw, cw, hsw, hFw⟩ := frames_of_row HO16.out (by rw [List.length_set]; exact HLEN.out) (fun q hq => by
              rcases List.mem_or_eq_of_mem_set hq with h | h
              · exact isBytes_below (HF.out.all q h) hB16
              · rw [h]; exact HYV.out _ hB16)
            have hse := sameFrs_true a2 n2 c2 l2 aw cw (l.set k ⟨⟨id, lo, fa, re, sz, dt⟩, va, vl, vc⟩) w16 (HR14.out.kept hb16) hFw (by rw [HF2.out, HF0.out, List.map_set])
            injection hsw with e1 e2 e3
            subst e1
            subst e3
            refine hse.mono ?_
            rintro e w17 ⟨rfl, hb17⟩
            have HB17 := Hid.mk (bl2 hB16 hb17)
            clear hb16 hB16 hFw hse hb17 k0 k1 k2 k3 k4 k5
            go_wp2_with fail
            go_ret
            exact ⟨rfl, HB17.out⟩
          · have hbe : ((ByteArray.mk pn.toArray).toList == (ByteArray.mk nm.toArray).toList) = false := by
              rw [ByteArray.toList_eq, ByteArray.toList_eq]
              simpa using he
            have hbe2 : (pn == nm) = false := by simpa using he
            have HNE2 := Hid.mk (show ∀ j (hj : j < l.length), j < k + 1 → nameL l[j].f ≠ nm from fun j hj h => by
              by_cases e : j = k
              · subst e; rw [← HPN.out]; exact he
              · exact HNO.out j hj (by omega))
            clear he
            refine wp_region_quiet_below (by kernel_rfl) (by kernel_rfl) ?_
            repeat (go_big_quiet_step (first
              | (go_at_call 19; with_reducible_and_instances exact Calls.regrown_of (HNA.out _ (HBR.out _ _)))
              | (go_at_call 19; with_reducible_and_instances exact Calls.regrown_of (HN2.out _ (HBR.out _ _)))))
            refine wpQuiet_nil ?_
            intro _ hw'
            obtain ⟨⟨dq, osq⟩, hw''⟩ := hw'
            have hbq := below_regrown w13 dq osq
            rw [hw'']
            generalize Go.Sort.grow (redrawn w13 dq) osq = w14 at *
            have HB14 := Hid.mk (bl2 HB2.out hbq)
            have HK14 := Hid.mk (HK1.out.kept hbq)
            have HP14 := Hid.mk (HP2.out.kept hbq)
            have HR14 := Hid.mk (HR2.out.kept hbq)
            clear hw'' hbq rf0 rf1 rf2 rf3 rf4 rf5 rg0 rg1 rg2 rg3 rg4 rg5 HBR
            go_wp2_with fail
            go_roundw
            case rel => exact ⟨k + 1, by omega, by go_num, HNE2, HK14, HP14, HR14, HB14⟩
            case measure => simp [intOf]; omega
        · obtain rfl : k = n := by omega
          have hmiss := miss_of (v := ⟨⟨id, lo, fa, re, sz, dt⟩, va, vl, vc⟩) HF0.out (fun j hj => by
            have := HNO.out j hj (by rw [HLEN.out] at hj; omega)
            rw [HNM.out] at this
            exact this)
          obtain ⟨hge, hz, hnz⟩ := HREN.out.miss hmiss
          rw [← HPE.out] at hge hz hnz
          subst hge
          have hf2 := hz rfl
          have hn2 : n2 = k + 1 := by rw [HNN2.out, ← List.length_map (f := fun u : FrV => u.f), hf2, putF_len, List.length_map, HL0.out, HLEN.out]
          subst hn2
          have HSE := Hid.mk (sameFrs_true a2 (k + 1) c2 l2 a1 c1 l1 wr HR.out HP.out (by rw [hf2, HF1b.out]))
          clear hf2 hz hnz hmiss
          go_wp2_with fail
          refine HSE.out.mono ?_
          rintro e w20 ⟨rfl, hb20⟩
          have HB20 := Hid.mk (bl2 HB.out hb20)
          clear hb20
          go_wp2_with fail
          go_ret
          exact ⟨rfl, HB20.out⟩
end Bw
end Go.Proofs.YthdffdobkampaaaDoor

/- Frames that came in as a list, with what the row's own reach tells of their lengths. -/
namespace Go.Proofs.YthdffdobkampaaaDoor
open Go.ChangeShapes Go.WideShapes Go.ChangeAt Go.RowKit
namespace Bw
theorem weights_one {H : Type} {P : Program} {e : TypeId} {p : Nat → Bool} : ∀ {ds : List (DataW H)}, (DataW.weightsAll P e ds).all p = true → ∀ d ∈ ds, (DataW.weights P e d).all p = true
  | [], _, d, hd => by cases hd
  | d0 :: ds, h, d, hd => by
    unfold DataW.weightsAll at h
    rw [List.all_append, Bool.and_eq_true] at h
    rcases List.mem_cons.1 hd with rfl | hd
    · exact h.1
    · exact weights_one h.2 d hd
set_option maxRecDepth 100000 in
theorem open_frames_sized {H : Type} {enc : TypeId × Value → H} {W : World} {fuel : Nat} {a : Option Addr} {n cap : Nat} {x : DataW H × List MemPlace}
    (hf : DataW.trod enc Tryd.prog W 0 (fun _ => true) true fuel 22 (Value.slice a n cap).cells.toList = some x)
    (hw : (DataW.weights Tryd.prog 22 x.1).all (· ≤ reachBytes) = true) : ∃ l, IsFrames W a n cap l ∧ n * 48 ≤ 140737488351232 ∧ ∀ v ∈ l, v.len ≤ 140737488351232 := by
  have hn := frames_len hf hw
  have hcv : (Value.slice a n cap).cells.toList = [.slice a n cap] := rfl
  rw [hcv] at hf
  rcases DataW.trod_slice Tryd.underlying22 hf with ⟨h0, _⟩ | ⟨y, len, cp, elems, rest, m, _, h0, hx, _, hl, hm, hlen, hel, _, _⟩
  · simp only [List.cons.injEq, and_true, Value.slice.injEq] at h0
    obtain ⟨rfl, rfl, rfl⟩ := h0
    exact ⟨[], ⟨rfl, Nat.le_refl _, Nat.zero_le _, fun _ => rfl, (fun _ h => by cases h), fun i hi => absurd hi (Nat.not_lt_zero _)⟩, hn, fun v hv => by cases hv⟩
  · simp only [List.cons.injEq, and_true, Value.slice.injEq] at h0
    obtain ⟨rfl, rfl, rfl⟩ := h0
    subst hx
    unfold DataW.weights at hw
    simp only [Tryd.underlying22, List.all_cons, List.all_append, Bool.and_eq_true] at hw
    have hwa := hw.2.1
    have each : ∀ i, i < n → ∃ v : FrV, (∀ k (hk : k < 6), W.cell? (y.add (i * 6 + k)) = some ((v.cells)[k]'hk)) ∧ IsBytes W v.a v.len v.cap v.f.dt ∧ v.len ≤ 140737488351232 := by
      intro i hi
      have h1 := hel i hi
      rw [List.getElem?_eq_getElem (by omega), Option.bind_eq_some_iff] at h1
      obtain ⟨cs, h2, h3⟩ := h1
      rw [frame_c] at h2
      have h4 := World.cells?_some h2
      have h3' := h3
      obtain ⟨v, rfl, hv⟩ := open_frame_cells (by exact h4.2.1) h3
      have hwi := weights_one hwa (elems[i]'(by omega)).1 (List.mem_map_of_mem (List.getElem_mem (by omega)))
      have hvl : v.len ≤ 140737488351232 := frame_len (id := v.f.id) (lo := v.f.lo) (fa := v.f.fa) (re := v.f.re) (sz := v.f.sz) (a := v.a) (len := v.len) (cap := v.cap) h3' hwi
      refine ⟨v, fun k hk => ?_, hv, hvl⟩
      have h5 := h4.2.2 k hk
      have e : (y.add (i * 6)).add k = y.add (i * 6 + k) := by
        first | exact Addr.add_add _ _ _ | (unfold Addr.add; simp; omega)
      rw [e] at h5
      rw [h5]
      exact List.getElem?_eq_getElem (show k < v.cells.length from hk)
    let g : Nat → FrV := fun i => if h : i < n then (each i h).choose else ⟨⟨0, false, false, false, 0, []⟩, none, 0, 0⟩
    have hg : ∀ i (h : i < n), (∀ k (hk : k < 6), W.cell? (y.add (i * 6 + k)) = some (((g i).cells)[k]'hk)) ∧ IsBytes W (g i).a (g i).len (g i).cap (g i).f.dt ∧ (g i).len ≤ 140737488351232 := by
      intro i h
      have e : g i = (each i h).choose := by show (if h : i < n then _ else _) = _; rw [dif_pos h]
      rw [e]
      exact (each i h).choose_spec
    refine ⟨(List.range n).map g, ⟨by simp, hl, hm, (fun h => by cases h), ?_, ?_⟩, hn, ?_⟩
    · intro z hz i hi k hk
      cases hz
      simp only [List.length_map, List.length_range] at hi
      simp only [List.getElem_map, List.getElem_range]
      exact (hg i hi).1 k hk
    · intro i hi
      simp only [List.length_map, List.length_range] at hi
      simp only [List.getElem_map, List.getElem_range]
      exact (hg i hi).2.1
    · intro v hv
      obtain ⟨i, hi, rfl⟩ := List.mem_map.1 hv
      exact (hg i (List.mem_range.1 hi)).2.2
end Bw
end Go.Proofs.YthdffdobkampaaaDoor

/- The table of the numbers of bytes off the row's own condition. -/
namespace Go.Proofs.YthdffdobkampaaaDoor
open Go.ChangeShapes Go.WideShapes Go.ChangeAt Go.RowKit
namespace Bw
theorem fsz_eq : Rows.laid_omnibus_frame_sizes (H := Unit) = Lib.tabData .i64 sizesI := by kernel_rfl
theorem fsz_t : Tryd.prog.underlying 97 = some (.array 16 3) := by kernel_rfl
theorem fsz_c : Tryd.prog.cellsOf 97 = 16 := by kernel_rfl
theorem fsz_c1 : Tryd.prog.cellsOf 3 = 1 := by kernel_rfl
theorem fsz_g : Tryd.prog.globalNamed "omnibus/frame.sizes" = some 1 := by kernel_rfl
theorem fsz_y : (Tryd.prog.globals[1]?).map (·.type) = some 97 := by kernel_rfl
theorem sizes_of {W : World} {laid : List (String × DataW Unit)} (hL : laidMet Tryd.prog laid W)
    (h1 : ("omnibus/frame.sizes", Rows.laid_omnibus_frame_sizes) ∈ laid) : SizesAt W := by
  obtain ⟨g, t, cs, fuel, p, hg, hty, hvar, hd⟩ := Lib.laidMet.reads hL h1
  obtain rfl := Option.some.inj (fsz_g.symm.trans hg)
  obtain rfl := Option.some.inj (fsz_y.symm.trans hty)
  rw [fsz_eq] at hd
  have hcs := Lib.cells_of_tab fsz_t Tryd.underlying3 fsz_c1 fsz_c hd
  intro i hi
  have := World.var?_cell hg hvar i
  rw [this, ← Array.getElem?_toList, hcs]
  rw [List.getElem?_map, List.getElem?_eq_getElem hi]
  simp [List.getD, hi]
end Bw
end Go.Proofs.YthdffdobkampaaaDoor

/- The one cell of the table of math/bits that is read, off the row's own condition. -/
namespace Go.Proofs.YthdffdobkampaaaDoor
open Go.ChangeShapes Go.WideShapes Go.ChangeAt Go.RowKit
namespace Bw
def bruijnZ : List Int := [0, 1, 56, 2, 57, 49, 28, 3, 61, 58, 42, 50, 38, 29, 17, 4, 62, 47, 59, 36, 45, 43, 51, 22, 53, 39, 33, 30, 24, 18, 12, 5, 63, 55, 48, 27, 60, 41, 37, 16, 46, 35, 44, 21, 52, 32, 23, 11, 54, 26, 40, 15, 34, 20, 31, 10, 25, 14, 19, 9, 13, 8, 7, 6]
theorem bruijn_eq : Rows.laid_math_bits_deBruijn64tab (H := Unit) = Lib.tabData .u8 bruijnZ := by kernel_rfl
theorem bruijn_t : Tryd.prog.underlying 122 = some (.array 64 5) := by kernel_rfl
theorem bruijn_c : Tryd.prog.cellsOf 122 = 64 := by kernel_rfl
theorem bruijn_c1 : Tryd.prog.cellsOf 5 = 1 := by kernel_rfl
theorem bruijn_g : Tryd.prog.globalNamed "math/bits.deBruijn64tab" = some 4 := by kernel_rfl
theorem bruijn_y : (Tryd.prog.globals[4]?).map (·.type) = some 122 := by kernel_rfl
theorem bruijn_of {W : World} {laid : List (String × DataW Unit)} (hL : laidMet Tryd.prog laid W)
    (h1 : ("math/bits.deBruijn64tab", Rows.laid_math_bits_deBruijn64tab) ∈ laid) : W.cell? ⟨4, 1, none⟩ = some (.int .u8 1) := by
  obtain ⟨g, t, cs, fuel, p, hg, hty, hvar, hd⟩ := Lib.laidMet.reads hL h1
  obtain rfl := Option.some.inj (bruijn_g.symm.trans hg)
  obtain rfl := Option.some.inj (bruijn_y.symm.trans hty)
  rw [bruijn_eq] at hd
  have hcs := Lib.cells_of_tab bruijn_t Tryd.underlying5 bruijn_c1 bruijn_c hd
  have := World.var?_cell hg hvar 1
  rw [this, ← Array.getElem?_toList, hcs]
  rfl
end Bw
end Go.Proofs.YthdffdobkampaaaDoor

/- What QueuePut answers: true. -/
namespace Go.Proofs.YthdffdobkampaaaDoor
open Go.ChangeShapes Go.WideShapes Go.ChangeAt Go.RowKit
namespace queuePut
open Bw Bm
theorem walk (a : Option Addr) (n cap : Nat) (l : List FrV) (id : Int) (lo fa re : Bool) (sz : Int) (va : Option Addr) (vl vc : Nat) (zs : List Int) (w : World) (hF : IsFrames w a n cap l) (_hi : (Lit.int .i64 id).wf = true) (_hs : (Lit.int .i64 sz).wf = true) (hz : IsRow .u8 w va vl vc zs) (hn : n * 48 ≤ 140737488351232) (hd : ∀ u ∈ l, u.len ≤ 140737488351232) (hL : laidMet Tryd.prog Rows.queuePutRow.laid w) :
    Calls Tryd.prog 3 #[.slice a n cap, frameV id lo fa re sz va vl vc] w fun e w' => e = .returned (.bool true) ∧ Below w.heap.size w w' := by
  have hS := sizes_of hL (by simp [Rows.queuePutRow])
  have hD := bruijn_of hL (by simp [Rows.queuePutRow])
  have hCF : CheckF := fun id lo fa re sz a len cap w h => checkFrame_any id lo fa re sz a len cap w h
  obtain ⟨dt, hY⟩ := isBytes_of_row hz
  by_cases hc : chkQ (l.map (·.f)) = 0
  · by_cases hE : frE ⟨id, lo, fa, re, sz, dt⟩ = 0
    · by_cases h0 : n = 0
      · exact put_zok hCF a n cap l ⟨⟨id, lo, fa, re, sz, dt⟩, va, vl, vc⟩ w hS hD hF hY hn hd hc hE h0
      · exact put_nok hCF a n cap l ⟨⟨id, lo, fa, re, sz, dt⟩, va, vl, vc⟩ w hS hD hF hY hn hd hc hE (by omega)
    · by_cases h0 : n = 0
      · exact put_zbad hCF a n cap l ⟨⟨id, lo, fa, re, sz, dt⟩, va, vl, vc⟩ w hS hD hF hY hn hd hc hE h0
      · exact put_nbad hCF a n cap l ⟨⟨id, lo, fa, re, sz, dt⟩, va, vl, vc⟩ w hS hD hF hY hn hd hc hE (by omega)
  · exact put_badL hCF a n cap l ⟨⟨id, lo, fa, re, sz, dt⟩, va, vl, vc⟩ w hS hD hF hY hn hd hc
end queuePut
end Go.Proofs.YthdffdobkampaaaDoor
