/- MessageBack: what is read of a frame is written as one that is read the same; repacked for itself a message means the same. -/
import Derived.Test.YtgjkioknnjbjfaaDoorRows
import Derived.Test.YtgjkioknnjbjfaaDoorMbackM
import Derived.Test.YtgjkioknnjbjfaaDoorMgMeant
import Derived.Test.YtgjkioknnjbjfaaDoorRefSame
import Derived.Test.YtgjkioknnjbjfaaDoorMsgOpen
import Derived.Test.YtgjkioknnjbjfaaDoorSizesRow
namespace Go.Proofs.YtgjkioknnjbjfaaDoor
open Go.ChangeShapes Go.WideShapes Go.ChangeAt Go.RowKit
namespace Bw
open Sm
theorem rds_postB {F : FuncId} {args : Array Value} {W : World} {l : List Rd} {n : Nat} (hn : l.length = n)
    (h : Calls Tryd.prog F args W fun e w' => ∃ u, e = .returned (.tuple #[u, .int .i64 0]) ∧ w'.ownsRow W.heap.size 43 3 u l.length (rdsC l) ∧ Below W.heap.size W w') :
    Calls Tryd.prog F args W fun e w' => ∃ a c, e = .returned (.tuple #[.slice a n c, .int .i64 0]) ∧ IsRds w' a n c l ∧ Below W.heap.size W w' := by
  refine h.mono ?_
  rintro e w' ⟨u, rfl, hown, hb⟩
  obtain ⟨ua, uc, rfl, hR⟩ := rds_own hown
  subst hn
  exact ⟨ua, uc, rfl, hR, hb⟩
theorem fv_new (w : World) (id : Int) (lo : Bool) (a : Option Addr) (n c : Nat) : FrAt (w.alloc (.cells #[.int .i64 id, .bool lo, .bool false, .bool false, .int .i64 0, .slice a n c] 25)) w.heap.size id lo false false 0 a n c := by
  have h := fun j => cell_of_row (w.alloc (.cells #[.int .i64 id, .bool lo, .bool false, .bool false, .int .i64 0, .slice a n c] 25)) w.heap.size j _ _ _ (heap_alloc_new w _)
  exact ⟨h 0, h 1, h 2, h 3, h 4, h 5⟩
set_option maxHeartbeats 16000000 in
set_option maxRecDepth 100000 in
theorem back_bad (v : MsV) (id : Int) (lo fa re : Bool) (sz : Int) (a : Option Addr) (len cap : Nat) (w : World) (hM : MsIn w v) (hS : SizesAt w) (hlm : len ≤ maxLen) (hE : readE v.m id lo fa re sz len ≠ 0) :
    Calls Tryd.prog 4 #[msV v, frameV id lo fa re sz a len cap] w fun e w' => e = .returned (.bool true) ∧ Below w.heap.size w w' := by
  have HBX := Hid.mk (rd_W0 w v id lo fa re sz a len cap)
  have HME := Hid.mk (fun W (h : Below w.heap.size w W) => meant_any W (hS.kept h))
  have HRD := Hid.mk (fun W (h : Below w.heap.size w W) => mread_bad v id lo fa re sz a len cap W (hM.kept h) (hS.kept h) hlm hE)
  have hne : (readE v.m id lo fa re sz len != 0) = true := by simpa using hE
  clear hM hS hlm hE
  generalize readE v.m id lo fa re sz len = RE at *
  obtain ⟨⟨mid, mlo, mnm, size, mch, sigs⟩, ma, mn, mcap⟩ := v
  unfold msC frameC at HBX
  unfold msV at HRD ⊢
  unfold frameV at HRD ⊢
  simp only at HBX HRD ⊢
  go_enter Tryd.func4, Tryd.ntmps4
  go_wp2_with fail
  refine (HRD.out _ HBX.out).mono ?_
  rintro e w1 ⟨rfl, hb1⟩
  have HB1 := Hid.mk (bl2 HBX.out hb1)
  clear hb1 HRD
  go_wp2_with fail
  refine (HME.out _ HB1.out).mono ?_
  rintro e w2 ⟨rfl, hb2⟩
  have HB2 := Hid.mk (bl2 HB1.out hb2)
  clear hb2
  go_wp2_with fail
  refine (HME.out _ HB2.out).mono ?_
  rintro e w3 ⟨rfl, hb3⟩
  have HB3 := Hid.mk (bl2 HB2.out hb3)
  clear hb3
  go_wp2_with fail
  go_ret
  exact ⟨rfl, HB3.out⟩
set_option maxHeartbeats 16000000 in
set_option maxRecDepth 100000 in
theorem back_ok (v : MsV) (id : Int) (lo fa re : Bool) (sz : Int) (a : Option Addr) (len cap : Nat) (dt : List UInt8) (w : World) (hM : MsIn w v) (hS : SizesAt w) (hD : IsBytes w a len cap dt) (hE : readE v.m id lo fa re sz len = 0) :
    Calls Tryd.prog 4 #[msV v, frameV id lo fa re sz a len cap] w fun e w' => e = .returned (.bool true) ∧ Below w.heap.size w w' := by
  have hO := (readE_ok hE).1
  have hCM : chkM v.m = 0 := by
    have h9 := hE
    unfold readE at h9
    split at h9
    · rename_i h1; exact absurd h9 h1
    · rename_i h1; exact Decidable.not_not.1 h1
  obtain ⟨n8, hn8⟩ : ∃ n8 : Nat, v.m.size = n8 := ⟨v.m.size.toNat, by have := hO.size0; omega⟩
  have HBX := Hid.mk (rd_W0 w v id lo fa re sz a len cap)
  have HMA := Hid.mk (rd_W0m w v id lo fa re sz a len cap)
  have HFA := Hid.mk (rd_W0f w v id lo fa re sz a len cap)
  have HME := Hid.mk (fun W (h : Below w.heap.size w W) => meant_any W (hS.kept h))
  obtain ⟨nR, hnR⟩ : ∃ nR, (readsD v.m dt).length = nR := ⟨_, rfl⟩
  have HRD := Hid.mk (fun W (h : Below w.heap.size w W) => rds_postB hnR (mread_ok v id lo fa re sz a len cap dt W (hM.kept h) (hS.kept h) (isBytes_below hD h) hE))
  have hsm : ∀ r ∈ readsD v.m dt, r.nm.size ≤ maxLen := by
    intro r hr
    unfold readsD at hr
    obtain ⟨s, hs, rfl⟩ := List.mem_map.1 hr
    obtain ⟨i, hi, rfl⟩ := List.getElem_of_mem (List.mem_filter.1 hs).1
    have := hO.sig hi
    unfold Msg.at at this
    rw [getD_at hi] at this
    exact nm_small this
  have HWR := Hid.mk (fun (hrm : Room (readsD v.m dt)) W a c (h : Below w.heap.size w W) (hF : IsRds W a nR c (readsD v.m dt)) => by
    have h1 := mwrite_ok v a nR c (readsD v.m dt) n8 W (hM.kept h) (hS.kept h) hF hsm hCM hn8
    rw [write_back hO hCM hn8 hrm, (fill_back hO hn8 hrm).1] at h1
    exact h1)
  have HR2 := Hid.mk (fun W a c (h : Below w.heap.size w W) (hB : IsBytes W a n8 c (backD v.m dt)) => by
    have h1 := mread_ok v v.m.id v.m.lo false false 0 a n8 c (backD v.m dt) W (hM.kept h) (hS.kept h) hB (read_back2 hO hCM hn8)
    rw [reads_back hO hn8] at h1
    exact rds_postB hnR h1)
  have HRP := Hid.mk (fun (hrm : Room (readsD v.m dt)) W (h : Below w.heap.size w W) => by
    have h1 := mrepack_ok v v id lo fa re sz a len cap dt n8 W (hM.kept h) (hM.kept h) (hS.kept h) (isBytes_below hD h) hCM hE hn8
    rw [(fill_back hO hn8 hrm).2.1] at h1
    exact h1)
  have HSF := Hid.mk (fun W a1 c1 a2 c2 (h1 : IsBytes W a1 n8 c1 (backD v.m dt)) (h2 : IsBytes W a2 n8 c2 (backD v.m dt)) => sameFrame_true ⟨v.m.id, v.m.lo, false, false, 0, backD v.m dt⟩ a1 a2 n8 c1 n8 c2 W h1 h2)
  have HRM : Hid ((∀ j, j < nR → -1099511627776 ≤ ((readsD v.m dt).getD j noR).num ∧ ((readsD v.m dt).getD j noR).num ≤ 1099511627776) → Room (readsD v.m dt)) := Hid.mk (fun h r hr => by
    obtain ⟨i, hi, rfl⟩ := List.getElem_of_mem hr
    have := h i (by omega)
    rw [getD_at hi] at this
    exact this)
  clear hM hS hD hE hO hCM hn8 hsm hnR
  generalize readsD v.m dt = RL at *
  generalize backD v.m dt = BD at *
  obtain ⟨⟨mid, mlo, mnm, size, mch, sigs⟩, ma, mn, mcap⟩ := v
  unfold msC frameC at HBX HMA HFA
  unfold msV at HRD HWR HR2 HRP ⊢
  unfold frameV at HRD HR2 HRP HSF ⊢
  simp only at HBX HMA HFA HRD HWR HR2 HRP HSF ⊢
  obtain ⟨c0, c1, c2, c3, c4, c5⟩ := HFA.out
  obtain ⟨m0, m1, m2, m3, m4, m5⟩ := HMA.out
  simp only at m0 m1 m2 m3 m4 m5
  go_enter Tryd.func4, Tryd.ntmps4
  go_wp2_with fail
  refine (HRD.out _ HBX.out).mono ?_
  rintro e w1 ⟨ua, uc, rfl, hR1, hb1⟩
  have HB1 := Hid.mk (bl2 HBX.out hb1)
  have HM1 := Hid.mk (HMA.out.kept hb1)
  have HF1 := Hid.mk (HFA.out.kept hb1)
  have HL1 := Hid.mk hR1
  clear hb1 HRD hR1 c0 c1 c2 c3 c4 c5 m0 m1 m2 m3 m4 m5
  go_wp2_with fail
  refine (HME.out _ HB1.out).mono ?_
  rintro e w2 ⟨rfl, hb2⟩
  have HB2 := Hid.mk (bl2 HB1.out hb2)
  have HM2 := Hid.mk (HM1.out.kept hb2)
  have HF2 := Hid.mk (HF1.out.kept hb2)
  have HL2 := Hid.mk (HL1.out.kept hb2)
  have hn63 : (nR : Int) ≤ 9223372036854775807 := by have h1 := HL2.out.le; have h2 := HL2.out.max; unfold maxLen at h2; omega
  clear hb2 HME
  go_wp2_with fail
  go_loopw [27] (fun i wr => ∃ k : Nat, k ≤ nR ∧ i = .int .i64 k ∧ Hid (∀ j, j < k → -1099511627776 ≤ (RL.getD j noR).num ∧ (RL.getD j noR).num ≤ 1099511627776) ∧ Hid (Below w2.heap.size w2 wr)) (fun i _ => nR - (intOf i).toNat)
  case atStart => exact ⟨0, Nat.zero_le _, rfl, Hid.mk (fun j hj => absurd hj (Nat.not_lt_zero _)), Hid.mk (Below.refl _ _)⟩
  case round =>
    obtain ⟨k, hk, rfl, HA, HB⟩ := hrel
    by_cases hlt : k < nR
    · have hlt' : (k : Int) < (nR : Int) := by omega
      obtain ⟨x, hx⟩ := HL2.out.some hlt
      cases hx
      obtain ⟨g0, g1, g2⟩ := (HL2.out.kept HB.out).at hlt
      have HST : Hid ((-1099511627776 ≤ (RL.getD k noR).num ∧ (RL.getD k noR).num ≤ 1099511627776) → ∀ j, j < k + 1 → -1099511627776 ≤ (RL.getD j noR).num ∧ (RL.getD j noR).num ≤ 1099511627776) := Hid.mk (fun h0 j hj => by
        rcases Nat.lt_or_ge j k with h | h
        · exact HA.out j h
        · have e9 : j = k := by omega
          subst e9
          exact h0)
      have HVV : Hid (∃ y, y = RL.getD k noR) := Hid.mk ⟨_, rfl⟩
      obtain ⟨r, hr⟩ := HVV.out
      rw [← hr] at g0 g1 g2
      simp only [← hr] at HST
      clear hr HVV
      obtain ⟨rn, rnum, rden⟩ := r
      simp only at g0 g1 g2 HST
      have HAL := Hid.mk (awB1 wr (.cells #[.string rn, .int .i64 rnum, .int .i64 rden] 43))
      by_cases h1 : 1099511627776 < rnum
      · go_wp2_with fail
        go_ret
        exact ⟨rfl, bl2 HB2.out (bl2 HB.out HAL.out)⟩
      · by_cases h2 : rnum < -1099511627776
        · go_wp2_with fail
          go_ret
          exact ⟨rfl, bl2 HB2.out (bl2 HB.out HAL.out)⟩
        · have HS := Hid.mk (HST.out ⟨by omega, by omega⟩)
          go_wp2_with fail
          go_roundw
          case rel => exact ⟨k + 1, by omega, by go_num, HS, Hid.mk (bl2 HB.out HAL.out)⟩
          case measure => simp [intOf]; omega
    · have e : k = nR := by omega
      subst e
      have HROOM := Hid.mk (HRM.out HA.out)
      have HB3 := Hid.mk (bl2 HB2.out HB.out)
      have HM3 := Hid.mk (HM2.out.kept HB.out)
      have HF3 := Hid.mk (HF2.out.kept HB.out)
      have HL3 := Hid.mk (HL2.out.kept HB.out)
      obtain ⟨m0, m1, m2, m3, m4, m5⟩ := HM3.out
      simp only at m0 m1 m2 m3 m4 m5
      clear hlt HRM
      go_wp2_with fail
      refine (HWR.out HROOM.out _ _ _ HB3.out HL3.out).mono ?_
      rintro e w4 ⟨hb4, hcase⟩
      rcases hcase with ⟨hne, _⟩ | ⟨_, ga, gc, rfl, hG4⟩
      · exact absurd rfl hne
      have HAG := Hid.mk (awB1 w4 (.cells #[.int .i64 mid, .bool mlo, .bool false, .bool false, .int .i64 0, .slice ga n8 gc] 25))
      have HB4 := Hid.mk (bl2 HB3.out (bl2 hb4 HAG.out))
      have HM4 := Hid.mk ((HM3.out.kept hb4).kept HAG.out)
      have HF4 := Hid.mk ((HF3.out.kept hb4).kept HAG.out)
      have HL4 := Hid.mk ((HL3.out.kept hb4).kept HAG.out)
      have HG4 := Hid.mk (fv_new w4 mid mlo ga n8 gc)
      have HD4 := Hid.mk (isBytes_below hG4 HAG.out)
      obtain ⟨m0, m1, m2, m3, m4, m5⟩ := HM4.out
      obtain ⟨f0, f1, f2, f3, f4, f5⟩ := HG4.out
      simp only at m0 m1 m2 m3 m4 m5
      clear hb4 hG4 HM3 HF3 HL3 HB3
      unfold frameV
      go_wp2_with fail
      refine (HR2.out _ _ _ HB4.out HD4.out).mono ?_
      rintro e w5 ⟨ka, kc, rfl, hK5, hb5⟩
      have HB5 := Hid.mk (bl2 HB4.out hb5)
      have HM5 := Hid.mk (HM4.out.kept hb5)
      have HF5 := Hid.mk (HF4.out.kept hb5)
      have HG5 := Hid.mk (HG4.out.kept hb5)
      have HD5 := Hid.mk (isBytes_below HD4.out hb5)
      have HEQ := Hid.mk (equalRd_true w5 ka ua k kc uc RL hK5 (HL4.out.kept hb5))
      clear hb5 hK5 f0 f1 f2 f3 f4 f5 m0 m1 m2 m3 m4 m5
      go_wp2_with fail
      refine HEQ.out.mono ?_
      rintro e w6 ⟨rfl, hb6⟩
      have HB6 := Hid.mk (bl2 HB5.out hb6)
      have HG6 := Hid.mk (HG5.out.kept hb6)
      have HD6 := Hid.mk (isBytes_below HD5.out hb6)
      obtain ⟨m0, m1, m2, m3, m4, m5⟩ := HM5.out.kept hb6
      obtain ⟨c0, c1, c2, c3, c4, c5⟩ := HF5.out.kept hb6
      simp only at m0 m1 m2 m3 m4 m5
      clear hb6 HEQ
      go_wp2_with fail
      refine (HRP.out HROOM.out _ HB6.out).mono ?_
      rintro e w7 ⟨hb7, hcase⟩
      rcases hcase with ⟨hne, _⟩ | ⟨_, ha, hc, rfl, hH7⟩
      · exact absurd rfl hne
      have HAH := Hid.mk (awB1 w7 (.cells #[.int .i64 mid, .bool mlo, .bool false, .bool false, .int .i64 0, .slice ha n8 hc] 25))
      have HB7 := Hid.mk (bl2 HB6.out (bl2 hb7 HAH.out))
      have HG7 := Hid.mk ((HG6.out.kept hb7).kept HAH.out)
      have HD7 := Hid.mk (isBytes_below (isBytes_below HD6.out hb7) HAH.out)
      have HH7 := Hid.mk (fv_new w7 mid mlo ha n8 hc)
      have HE7 := Hid.mk (isBytes_below hH7 HAH.out)
      obtain ⟨f0, f1, f2, f3, f4, f5⟩ := HG7.out
      obtain ⟨h0, h1, h2, h3, h4, h5⟩ := HH7.out
      clear hb7 hH7 m0 m1 m2 m3 m4 m5 c0 c1 c2 c3 c4 c5
      unfold frameV
      go_wp2_with fail
      refine (HSF.out _ _ _ _ _ HE7.out HD7.out).mono ?_
      rintro e w8 ⟨rfl, hb8⟩
      have HB8 := Hid.mk (bl2 HB7.out hb8)
      clear hb8
      go_wp2_with fail
      go_ret
      exact ⟨rfl, HB8.out⟩
end Bw
namespace messageBack
open Bw
theorem walk (v : MsV) (id : Int) (lo fa re : Bool) (sz : Int) (a : Option Addr) (len cap : Nat) (zs : List Int) (w : World) (hM : MsIn w v) (_ : (Lit.int .i64 id).wf = true) (_ : (Lit.int .i64 sz).wf = true) (hR : IsRow .u8 w a len cap zs) (hL : laidMet Tryd.prog Rows.messageBackRow.laid w) :
    Calls Tryd.prog 4 #[msV v, frameV id lo fa re sz a len cap] w fun e w' => e = .returned (.bool true) ∧ Below w.heap.size w w' := by
  obtain ⟨dt, hD⟩ := isBytes_of_row hR
  have hS := sizes_of hL (by simp [Rows.messageBackRow])
  by_cases hE : readE v.m id lo fa re sz len = 0
  · exact back_ok v id lo fa re sz a len cap dt w hM hS hD hE
  · exact back_bad v id lo fa re sz a len cap w hM hS (Nat.le_trans hD.2.1 hD.2.2.1) hE
end messageBack
end Go.Proofs.YtgjkioknnjbjfaaDoor
