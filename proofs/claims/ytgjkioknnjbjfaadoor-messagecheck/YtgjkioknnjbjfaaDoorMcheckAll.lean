/- MessageCheck: the document's CheckMessages; of any messages it is told whether they are right, and which is any frame's. -/
import Derived.Test.YtgjkioknnjbjfaaDoorRmCheck
import Derived.Test.YtgjkioknnjbjfaaDoorMgFindA
import Derived.Test.YtgjkioknnjbjfaaDoorMgMeant
import Derived.Lib.QuietBelow
import Derived.BigQuiet
import Derived.Test.YtgjkioknnjbjfaaDoorRows
import Derived.Test.YtgjkioknnjbjfaaDoorRefFrame
import Derived.Test.YtgjkioknnjbjfaaDoorMsgOpenL
import Derived.Test.YtgjkioknnjbjfaaDoorSizesRow
namespace Go.Proofs.YtgjkioknnjbjfaaDoor
open Go.ChangeShapes Go.WideShapes Go.ChangeAt Go.RowKit
namespace Bw
open Sm
set_option maxHeartbeats 16000000 in
set_option maxRecDepth 100000 in
theorem checkMessages_any (hCF : CheckFM) (a : Option Addr) (n c : Nat) (l : List MsV) (w : World) (hF : IsMsgs w a n c l) :
    Calls Tryd.prog 9 #[.slice a n c] w fun e w' => e = .returned (.int .i64 (chkA l)) ∧ Below w.heap.size w w' := by
  have hlen := hF.row.len
  have hn63 : (n : Int) ≤ 9223372036854775807 := by have h1 := hF.row.le; have h2 := hF.row.max; unfold maxLen at h2; omega
  have HF := Hid.mk hF
  have hR : chkA l = if 20 < n then 2 else firstE (allE l) n := by unfold chkA; rw [hlen]
  rw [hR]
  have HCK := Hid.mk (fun i (hi : i < n) W (hb : Below w.heap.size w W) => checkMessage_any hCF (l.getD i noM) W ((hF.each _ (hF.mem hi)).kept hb))
  have HG : Hid (∀ i, allE l i = if chkM (l.getD i noM).m = 0 then (if ((l.take i).any fun a => clB a.m (l.getD i noM).m) = true then 9 else 0) else chkM (l.getD i noM).m) := Hid.mk (fun i => rfl)
  have HANY : Hid (∀ i v, i ≤ n → (∀ j, j < i → clB (l.getD j noM).m v = false) → ((l.take i).any fun a => clB a.m v) = false) := Hid.mk (fun i v hi h => by
    rw [List.any_eq_false]
    intro x hx
    rw [List.mem_take_iff_getElem] at hx
    obtain ⟨j, hj, rfl⟩ := hx
    have := h j (by omega)
    rw [getD_at (by omega)] at this
    rw [this]
    simp)
  have HANY2 : Hid (∀ i v j, i ≤ n → j < i → clB (l.getD j noM).m v = true → ((l.take i).any fun a => clB a.m v) = true) := Hid.mk (fun i v j hi hj h => by
    rw [List.any_eq_true]
    refine ⟨l.getD j noM, ?_, h⟩
    rw [getD_at (by omega), List.mem_take_iff_getElem]
    exact ⟨j, by omega, rfl⟩)
  generalize allE l = G at *
  clear hR hF hlen
  by_cases h20 : 20 < n
  · rw [if_pos h20]
    have h20' : (20 : Int) < (n : Int) := by omega
    clear h20
    go_enter Tryd.func9, Tryd.ntmps9
    go_wp2_with fail
    go_ret
    exact ⟨rfl, Below.refl _ _⟩
  · rw [if_neg h20]
    have h20' : (n : Int) ≤ 20 := by omega
    clear h20
    go_enter Tryd.func9, Tryd.ntmps9
    go_wp2_with fail
    go_loopw [13] (fun i wr => ∃ k : Nat, k ≤ n ∧ i = .int .i64 k ∧ Hid (firstE G k = 0) ∧ Hid (Below w.heap.size w wr)) (fun i _ => n - (intOf i).toNat)
    case atStart => exact ⟨0, Nat.zero_le _, rfl, Hid.mk rfl, Hid.mk (Below.refl _ _)⟩
    case round =>
      obtain ⟨k, hk, rfl, HF0, HB⟩ := hrel
      by_cases hlt : k < n
      · have hlt' : (k : Int) < (n : Int) := by omega
        obtain ⟨x, hx⟩ := HF.out.row.some hlt
        subst hx
        have hAt := (HF.out.kept HB.out).at hlt
        have HBX := Hid.mk (ms_box wr (l.getD k noM))
        have HBA := Hid.mk (MsAt.box wr (l.getD k noM))
        have HC := Hid.mk (HCK.out k hlt)
        have HGk := Hid.mk (HG.out k)
        have HA1 := Hid.mk (HANY.out k (l.getD k noM).m hk)
        have HA2 := Hid.mk (fun j => HANY2.out k (l.getD k noM).m j hk)
        generalize (l.take k).any (fun a => clB a.m (l.getD k noM).m) = AN at *
        have HVV : Hid (∃ y, y = l.getD k noM) := Hid.mk ⟨_, rfl⟩
        obtain ⟨v, hv⟩ := HVV.out
        rw [← hv] at hAt HC HGk
        simp only [← hv] at HBX HBA HA1 HA2
        clear hv HVV
        generalize chkM v.m = E at *
        have HCL : Hid (∀ b : Msg, clB b v.m = (decide (b.nm = v.m.nm) || ((b.id == v.m.id) && (b.lo == v.m.lo)))) := Hid.mk (fun _ => rfl)
        obtain ⟨⟨mid, mlo, mnm, size, mch, sigs⟩, ma, mn, mcap⟩ := v
        obtain ⟨c0, c1, c2, c3, c4, c5⟩ := hAt
        unfold msC at HBX HBA
        unfold msV at HC
        simp only at HBX HBA HC HA1 HA2 HCL c0 c1 c2 c3 c4 c5
        generalize hclb : (fun b : Msg => clB b ⟨mid, mlo, mnm, size, mch, sigs⟩) = CL at *
        have HCE : Hid (∀ b, clB b ⟨mid, mlo, mnm, size, mch, sigs⟩ = CL b) := Hid.mk (fun b => by rw [← hclb])
        simp only [HCE.out] at HA1 HA2 HCL
        clear hclb HCE
        have hle := HF.out.row.le
        have hkc : k ≤ c := by omega
        have hkc' : (k : Int) ≤ (c : Int) := by omega
        clear hle
        by_cases hE : E = 0
        · subst hE
          have HG2 : Hid (G k = if AN = true then 9 else 0) := Hid.mk (by
            have h9 := HGk.out
            simp only [if_true] at h9
            exact h9)
          clear HGk
          go_wp2_with fail
          refine (HC.out _ (bl2 HB.out HBX.out)).mono ?_
          rintro e w1 ⟨rfl, hb1⟩
          have HB1 := Hid.mk (bl2 HB.out (bl2 HBX.out hb1))
          have HAA := Hid.mk (HBA.out.kept hb1)
          clear hb1 c0 c1 c2 c3 c4 c5
          go_wp2_with fail
          go_loopw [27] (fun i wr => ∃ q : Nat, q ≤ k ∧ i = .int .i64 q ∧ Hid (∀ j, j < q → CL (l.getD j noM).m = false) ∧ Hid (Below w1.heap.size w1 wr)) (fun i _ => k - (intOf i).toNat)
          case atStart => exact ⟨0, Nat.zero_le _, rfl, Hid.mk (fun j hj => absurd hj (Nat.not_lt_zero _)), Hid.mk (Below.refl _ _)⟩
          case round =>
            obtain ⟨q, hq, rfl, HQ, HBq⟩ := hrel
            by_cases hlq : q < k
            · have hlq' : (q : Int) < (k : Int) := by omega
              have hqn : q < n := by omega
              have hAq := (HF.out.kept (bl2 HB1.out HBq.out)).at hqn
              have HBX2 := Hid.mk (ms_box wr (l.getD q noM))
              have hmq := (HAA.out.kept HBq.out).kept HBX2.out
              have HCq := Hid.mk (HCL.out (l.getD q noM).m)
              have HA2q := Hid.mk (HA2.out q hlq)
              have HSTEP : Hid (CL (l.getD q noM).m = false → ∀ j, j < q + 1 → CL (l.getD j noM).m = false) := Hid.mk (fun h0 j hj => by
                rcases Nat.lt_or_ge j q with h | h
                · exact HQ.out j h
                · have e9 : j = q := by omega
                  subst e9
                  exact h0)
              generalize hCV : CL (l.getD q noM).m = CV at *
              clear hCV
              have HVV : Hid (∃ y, y = l.getD q noM) := Hid.mk ⟨_, rfl⟩
              obtain ⟨v', hv'⟩ := HVV.out
              rw [← hv'] at hAq
              simp only [← hv'] at HBX2 hmq HCq
              clear hv' HVV
              obtain ⟨⟨mid', mlo', mnm', size', mch', sigs'⟩, ma', mn', mcap'⟩ := v'
              obtain ⟨d0, d1, d2, d3, d4, d5⟩ := hAq
              unfold msC at HBX2 hmq
              obtain ⟨r0, r1, r2, r3, r4, r5⟩ := hmq
              simp only at HBX2 HCq d0 d1 d2 d3 d4 d5 r0 r1 r2 r3 r4 r5
              have HYES : Hid (CV = true → firstE G n = 9) := Hid.mk (fun h => by
                have h9 : AN = true := HA2q.out h
                rw [firstE_hit HF0.out (by rw [HG2.out, if_pos h9]; decide) hlt, HG2.out, if_pos h9])
              by_cases hnm : mnm' = mnm
              · have e0 := str_yes hnm
                have HV := Hid.mk (HYES.out (by rw [HCq.out]; simp [hnm]))
                clear hnm
                go_wp2_with fail
                go_ret
                exact ⟨by rw [HV.out]; rfl, bl2 HB1.out (bl2 HBq.out HBX2.out)⟩
              · have e0 := str_no hnm
                have HCq2 : Hid (CV = ((mid' == mid) && (mlo' == mlo))) := Hid.mk (by rw [HCq.out]; simp [hnm])
                clear hnm
                by_cases hid : mid' = mid
                · subst hid
                  by_cases hlo : mlo' = mlo
                  · subst hlo
                    have HV := Hid.mk (HYES.out (by rw [HCq2.out]; simp))
                    go_wp2_with fail
                    go_ret
                    exact ⟨by rw [HV.out]; rfl, bl2 HB1.out (bl2 HBq.out HBX2.out)⟩
                  · have hlb : (mlo' == mlo) = false := by simpa using hlo
                    have HNO := Hid.mk (HSTEP.out (by rw [HCq2.out, hlb]; simp))
                    clear hlo
                    go_wp2_with fail
                    go_roundw
                    case rel => exact ⟨q + 1, by omega, by go_num, HNO, Hid.mk (bl2 HBq.out HBX2.out)⟩
                    case measure => simp [intOf]; omega
                · have hib : (mid' == mid) = false := by simpa using hid
                  have HNO := Hid.mk (HSTEP.out (by rw [HCq2.out, hib]; rfl))
                  clear hid
                  go_wp2_with fail
                  go_roundw
                  case rel => exact ⟨q + 1, by omega, by go_num, HNO, Hid.mk (bl2 HBq.out HBX2.out)⟩
                  case measure => simp [intOf]; omega
            · have e : q = k := by omega
              subst e
              have HAN := Hid.mk (HA1.out HQ.out)
              go_wp2_with fail
              go_roundw
              case rel => exact ⟨q + 1, by omega, by go_num, Hid.mk (firstE_step HF0.out (by rw [HG2.out, HAN.out]; rfl)), Hid.mk (bl2 HB1.out HBq.out)⟩
              case measure => simp [intOf]; omega
        · have hne : (E != 0) = true := by simpa using hE
          have HV : Hid (G k = E) := Hid.mk (by rw [HGk.out, if_neg hE])
          have HE := Hid.mk hE
          clear hE HGk
          go_wp2_with fail
          refine (HC.out _ (bl2 HB.out HBX.out)).mono ?_
          rintro e w1 ⟨rfl, hb1⟩
          have HB1 := Hid.mk (bl2 HB.out (bl2 HBX.out hb1))
          clear hb1
          go_wp2_with fail
          go_ret
          exact ⟨by rw [firstE_hit HF0.out (by rw [HV.out]; exact HE.out) hlt, HV.out]; rfl, HB1.out⟩
      · have e : k = n := by omega
        subst e
        go_wp2_with fail
        go_ret
        exact ⟨by rw [HF0.out]; rfl, HB.out⟩
end Bw
end Go.Proofs.YtgjkioknnjbjfaaDoor
namespace Go.Proofs.YtgjkioknnjbjfaaDoor
open Go.ChangeShapes Go.WideShapes Go.ChangeAt Go.RowKit Go.Sort
namespace Bw
open Sm
theorem enter_lawof : ∀ args w, (callFunc 14 args).run Tryd.prog w = .ok (.enter 14 args) w := enters_of Tryd.func14 (by kernel_rfl) rfl
set_option maxHeartbeats 4000000 in
theorem lawof_any (v : MsV) (g : Nat) (id : Int) (lo fa re : Bool) (sz : Int) (fa0 : Option Addr) (len cap : Nat) (w : World) (hg : FrAt w g id lo fa re sz fa0 len cap) :
    Calls Tryd.prog 14 #[msV v, .pointer (some ⟨g, 0, none⟩)] w fun e w' => e = .returned (.bool (ofB id lo v)) ∧ Below w.heap.size w w' := by
  have HB := Hid.mk (ms_box w v)
  have hg1 := hg.kept HB.out
  have hR : ofB id lo v = ((id == v.m.id) && (lo == v.m.lo)) := rfl
  rw [hR]
  clear hR hg
  obtain ⟨⟨mid, mlo, mnm, size, mch, sigs⟩, ma, mn, mcap⟩ := v
  unfold msC at HB hg1
  unfold msV
  simp only at HB hg1 ⊢
  obtain ⟨c0, c1, c2, c3, c4, c5⟩ := hg1
  by_cases h0 : mid = id
  · subst h0
    by_cases h1 : mlo = lo
    · subst h1
      rw [show ((mid == mid) && (mlo == mlo)) = true by simp]
      go_enter Tryd.func14, Tryd.ntmps14
      go_wp2_with fail
      go_ret
      exact ⟨ret_b (by simp), HB.out⟩
    · have e1 : (mlo == lo) = false := by simpa using h1
      rw [show ((mid == mid) && (lo == mlo)) = false by simp; exact fun h => h1 h.symm]
      clear h1
      go_enter Tryd.func14, Tryd.ntmps14
      go_wp2_with fail
      go_ret
      exact ⟨ret_b (by first | exact e1 | rfl | simp [e1]), HB.out⟩
  · have e0 : (mid == id) = false := by simpa using h0
    rw [show ((id == mid) && (lo == mlo)) = false by rw [show (id == mid) = false by simpa using fun h => h0 h.symm]; rfl]
    clear h0
    go_enter Tryd.func14, Tryd.ntmps14
    go_wp2_with fail
    go_ret
    exact ⟨rfl, HB.out⟩
set_option maxHeartbeats 16000000 in
set_option maxRecDepth 100000 in
theorem check_law (hCF : CheckFM) (a : Option Addr) (n c : Nat) (l : List MsV) (id : Int) (lo fa re : Bool) (sz : Int) (fa0 : Option Addr) (len cap : Nat) (w : World) (hF : IsMsgs w a n c l) (hS : SizesAt w) (hl : len ≤ maxLen) :
    Calls Tryd.prog 3 #[.slice a n c, frameV id lo fa re sz fa0 len cap] w fun e w' => e = .returned (.bool true) ∧ Below w.heap.size w w' := by
  have hb := below_box w id lo fa re sz fa0 len cap
  have HBX := Hid.mk hb
  have HAT := Hid.mk (FrAt.box w id lo fa re sz fa0 len cap)
  have HFI := Hid.mk (fun W (h : Below w.heap.size w W) => find_any a n c l id lo fa re sz fa0 len cap W (hF.kept h) (hS.kept h) hl)
  have HME := Hid.mk (fun W (h : Below w.heap.size w W) => meant_any W (hS.kept h))
  have HCA := Hid.mk (fun W (h : Below w.heap.size w W) => checkAll_any a n c l W (hF.kept h) (hS.kept h))
  have HCD := Hid.mk (fun W (h : Below w.heap.size w W) => checkMessages_any hCF a n c l W (hF.kept h))
  have HFR := Hid.mk (fun W => hCF id lo fa re sz fa0 len cap W (by unfold maxLen at hl; omega))
  have hlen := hF.row.len
  have hn63 : (n : Int) ≤ 9223372036854775807 := by have h1 := hF.row.le; have h2 := hF.row.max; unfold maxLen at h2; omega
  have HCK := Hid.mk (fun i (hi : i < n) W (hb : Below w.heap.size w W) => mcheck_any (l.getD i noM) W ((hF.each _ (hF.mem hi)).kept hb) (hS.kept hb))
  have HCM := Hid.mk (fun i (hi : i < n) W (hb : Below w.heap.size w W) => checkMessage_any hCF (l.getD i noM) W ((hF.each _ (hF.mem hi)).kept hb))
  have HIX := Hid.mk (fun g W (h : Below w.heap.size w W) (hg : FrAt W g id lo fa re sz fa0 len cap) => indexFuncMs 14 #[.pointer (some ⟨g, 0, none⟩)] enter_lawof (fun x => ofB id lo x) a n c l W (hF.kept h) (fun W' x hb' _ => lawof_any x g id lo fa re sz fa0 len cap W' (hg.kept hb')))
  have HF := Hid.mk hF
  have HI : Hid (findI l id lo = idxK (fun i => ofB id lo (l.getD i noM)) n) := Hid.mk (by unfold findI; rw [hlen])
  have hI := HI.out
  have HE : Hid (findE l id lo fa re sz len = if chkA l ≠ 0 then chkA l else frEn id lo fa re sz len) := Hid.mk rfl
  rw [hI] at HFI
  generalize findE l id lo fa re sz len = EE at *
  generalize idxK (fun i => ofB id lo (l.getD i noM)) n = FI at *
  generalize chkA l = CA at *
  generalize frEn id lo fa re sz len = FE at *
  clear hF hS hl hb hlen hI HI hCF
  unfold frameC at HBX HAT
  unfold frameV at HFI HFR ⊢
  go_enter Tryd.func3, Tryd.ntmps3
  go_wp2_with fail
  go_loopw [12] (fun i wr => ∃ k : Nat, k ≤ n ∧ i = .int .i64 k ∧ Hid (FrAt wr w.heap.size id lo fa re sz fa0 len cap) ∧ Hid (Below w.heap.size w wr)) (fun i _ => n - (intOf i).toNat)
  case atStart => exact ⟨0, Nat.zero_le _, rfl, HAT, HBX⟩
  case round =>
    obtain ⟨k, hk, rfl, HA, HB⟩ := hrel
    by_cases hlt : k < n
    · have hlt' : (k : Int) < (n : Int) := by omega
      obtain ⟨x, hx⟩ := HF.out.row.some hlt
      subst hx
      have hAt := (HF.out.kept HB.out).at hlt
      have HBX1 := Hid.mk (ms_box wr (l.getD k noM))
      have HMA := Hid.mk (MsAt.box wr (l.getD k noM))
      have HC := Hid.mk (HCK.out k hlt)
      have HD := Hid.mk (HCM.out k hlt)
      generalize l.getD k noM = v at *
      generalize chkM v.m = E at *
      obtain ⟨⟨mid, mlo, mnm, size, mch, sigs⟩, ma, mn, mcap⟩ := v
      obtain ⟨c0, c1, c2, c3, c4, c5⟩ := hAt
      unfold msC at HBX1 HMA
      unfold msV at HC HD
      simp only at HBX1 HMA HC HD c0 c1 c2 c3 c4 c5
      obtain ⟨W1, hW1⟩ : ∃ W1, W1 = wr.alloc (.cells #[.int .i64 mid, .bool mlo, .string mnm, .int .i64 size, .int .i64 mch, .slice ma mn mcap] 28) := ⟨_, rfl⟩
      rw [← hW1] at HBX1 HMA
      have HW1 := Hid.mk hW1
      clear hW1
      obtain ⟨g, hg⟩ : ∃ g, g = wr.heap.size := ⟨_, rfl⟩
      rw [← hg] at HMA
      have HG := Hid.mk hg
      clear hg
      have HAW := Hid.mk (HA.out.kept HBX1.out)
      have HB1 := Hid.mk (bl2 HB.out HBX1.out)
      obtain ⟨m0, m1, m2, m3, m4, m5⟩ := HMA.out
      simp only at m0 m1 m2 m3 m4 m5
      go_wp2_with fail
      rw [← HW1.out, ← HG.out]
      clear c0 c1 c2 c3 c4 c5
      have r0 := fun d os => cell_kept (below_regrown W1 d os) m0
      have r1 := fun d os => cell_kept (below_regrown W1 d os) m1
      have r2 := fun d os => cell_kept (below_regrown W1 d os) m2
      have r3 := fun d os => cell_kept (below_regrown W1 d os) m3
      have r4 := fun d os => cell_kept (below_regrown W1 d os) m4
      have r5 := fun d os => cell_kept (below_regrown W1 d os) m5
      refine wp_region_quiet_below (by kernel_rfl) (by kernel_rfl) ?_
      repeat (go_big_quiet_step ((first | (go_at_call 6; exact Calls.regrown_of (HC.out _ (bl2 HB1.out (below_regrown W1 _ _)))) | (go_at_call 7; exact Calls.regrown_of (HD.out _ (bl2 HB1.out (below_regrown W1 _ _)))))))
      refine wpQuiet_nil ?_
      intro _ hw'
      obtain ⟨⟨dq, osq⟩, hw''⟩ := hw'
      have hbq := below_regrown W1 dq osq
      rw [hw'']
      generalize grow (redrawn W1 dq) osq = W2 at *
      have HB2 := Hid.mk (bl2 HB1.out hbq)
      have HA2 := Hid.mk (HAW.out.kept hbq)
      clear hw'' hbq r0 r1 r2 r3 r4 r5 m0 m1 m2 m3 m4 m5
      go_wp2_with fail
      go_roundw
      case rel => exact ⟨k + 1, by omega, by go_num, HA2, HB2⟩
      case measure => simp [intOf]; omega
    · have e : k = n := by omega
      subst e
      obtain ⟨c0, c1, c2, c3, c4, c5⟩ := HA.out
      clear HCK HCM hlt
      by_cases h0 : CA = 0
      case neg =>
        have HEE : Hid (EE = CA) := Hid.mk (by rw [HE.out, if_pos h0])
        have hee := HEE.out
        subst hee
        have hne : (EE != 0) = true := by simpa using h0
        have hne2 : (EE == 0) = false := by simpa using h0
        rw [if_neg h0] at HFI
        clear h0
        go_wp2_with fail
        refine (HFI.out _ HB.out).mono ?_
        rintro e w2 ⟨rfl, hb2⟩
        have HB2 := Hid.mk (bl2 HB.out hb2)
        clear hb2
        go_wp2_with fail
        refine (HCD.out _ HB2.out).mono ?_
        rintro e w3 ⟨rfl, hb3⟩
        have HB3 := Hid.mk (bl2 HB2.out hb3)
        clear hb3
        go_wp2_with fail
        refine (HME.out _ HB3.out).mono ?_
        rintro e w4 ⟨rfl, hb4⟩
        have HB4 := Hid.mk (bl2 HB3.out hb4)
        clear hb4
        go_wp2_with fail
        refine (HCA.out _ HB4.out).mono ?_
        rintro e w5 ⟨rfl, hb5⟩
        have HB5 := Hid.mk (bl2 HB4.out hb5)
        clear hb5
        go_wp2_with fail
        go_ret
        exact ⟨rfl, HB5.out⟩
      case pos =>
      subst h0
      have HEE : Hid (EE = FE) := Hid.mk (by rw [HE.out, if_neg (by simp)])
      have hee := HEE.out
      subst hee
      by_cases h1 : EE = 0
      case neg =>
        have hne : (EE != 0) = true := by simpa using h1
        rw [if_neg h1] at HFI
        clear h1
        go_wp2_with fail
        refine (HFI.out _ HB.out).mono ?_
        rintro e w2 ⟨rfl, hb2⟩
        have HB2 := Hid.mk (bl2 HB.out hb2)
        have HA2 := Hid.mk (HA.out.kept hb2)
        clear hb2
        go_wp2_with fail
        refine (HCD.out _ HB2.out).mono ?_
        rintro e w3 ⟨rfl, hb3⟩
        have HB3 := Hid.mk (bl2 HB2.out hb3)
        have HA3 := Hid.mk (HA2.out.kept hb3)
        clear hb3
        go_wp2_with fail
        refine (HME.out _ HB3.out).mono ?_
        rintro e w4 ⟨rfl, hb4⟩
        have HB4 := Hid.mk (bl2 HB3.out hb4)
        have HA4 := Hid.mk (HA3.out.kept hb4)
        clear hb4
        go_wp2_with fail
        refine (HCA.out _ HB4.out).mono ?_
        rintro e w5 ⟨rfl, hb5⟩
        have HB5 := Hid.mk (bl2 HB4.out hb5)
        obtain ⟨d0, d1, d2, d3, d4, d5⟩ := HA4.out.kept hb5
        clear hb5
        go_wp2_with fail
        refine (HFR.out _).mono ?_
        rintro e w6 ⟨rfl, hb6⟩
        have HB6 := Hid.mk (bl2 HB5.out hb6)
        clear hb6
        go_wp2_with fail
        go_ret
        exact ⟨rfl, HB6.out⟩
      case pos =>
      subst h1
      rw [if_pos rfl] at HFI
      go_wp2_with fail
      refine (HFI.out _ HB.out).mono ?_
      rintro e w2 ⟨rfl, hb2⟩
      have HB2 := Hid.mk (bl2 HB.out hb2)
      have HA2 := Hid.mk (HA.out.kept hb2)
      clear hb2
      go_wp2_with fail
      refine (HCD.out _ HB2.out).mono ?_
      rintro e w3 ⟨rfl, hb3⟩
      have HB3 := Hid.mk (bl2 HB2.out hb3)
      have HA3 := Hid.mk (HA2.out.kept hb3)
      clear hb3
      go_wp2_with fail
      refine (HME.out _ HB3.out).mono ?_
      rintro e w4 ⟨rfl, hb4⟩
      have HB4 := Hid.mk (bl2 HB3.out hb4)
      have HA4 := Hid.mk (HA3.out.kept hb4)
      clear hb4
      go_wp2_with fail
      refine (HCA.out _ HB4.out).mono ?_
      rintro e w5 ⟨rfl, hb5⟩
      have HB5 := Hid.mk (bl2 HB4.out hb5)
      have HA5 := Hid.mk (HA4.out.kept hb5)
      obtain ⟨d0, d1, d2, d3, d4, d5⟩ := HA5.out
      clear hb5
      go_wp2_with fail
      refine (HFR.out _).mono ?_
      rintro e w6 ⟨rfl, hb6⟩
      have HB6 := Hid.mk (bl2 HB5.out hb6)
      have HA6 := Hid.mk (HA5.out.kept hb6)
      clear hb6
      go_wp2_with fail
      refine (HIX.out _ _ HB6.out HA6.out).mono ?_
      rintro e w7 ⟨rfl, hb7⟩
      have HB7 := Hid.mk (bl2 HB6.out hb7)
      clear hb7
      go_wp2_with fail
      go_ret
      exact ⟨ret_b (by simp), HB7.out⟩
end Bw
end Go.Proofs.YtgjkioknnjbjfaaDoor
namespace Go.Proofs.YtgjkioknnjbjfaaDoor
open Go.ChangeShapes Go.WideShapes Go.ChangeAt Go.RowKit
namespace messageCheck
open Bw
theorem row_len {k : IntKind} {w : World} {a : Option Addr} {len cap : Nat} {zs : List Int} (h : IsRow k w a len cap zs) : len ≤ maxLen := by
  rcases h with ⟨_, h, _, _⟩ | ⟨x, _, h1, h2, _⟩
  · omega
  · exact Nat.le_trans h1 h2
theorem walk (a : Option Addr) (n c : Nat) (l : List MsV) (id : Int) (lo fa re : Bool) (sz : Int) (fa0 : Option Addr) (len cap : Nat) (zs : List Int) (w : World) (hF : IsMsgs w a n c l) (_ : (Lit.int .i64 id).wf = true) (_ : (Lit.int .i64 sz).wf = true) (hR : IsRow .u8 w fa0 len cap zs) (hL : laidMet Tryd.prog Rows.messageCheckRow.laid w) :
    Calls Tryd.prog 3 #[.slice a n c, frameV id lo fa re sz fa0 len cap] w fun e w' => e = .returned (.bool true) ∧ Below w.heap.size w w' :=
  check_law checkFrame_any a n c l id lo fa re sz fa0 len cap w hF (sizes_of hL (by simp [Rows.messageCheckRow])) (row_len hR)
end messageCheck
end Go.Proofs.YtgjkioknnjbjfaaDoor
