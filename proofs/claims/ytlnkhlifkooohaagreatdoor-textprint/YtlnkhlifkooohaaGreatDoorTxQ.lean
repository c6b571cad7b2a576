/- TextPrint: any messages are printed as the document says, errors too. -/
import Derived.Test.YtlnkhlifkooohaaGreatDoorRmCheck
import Derived.Test.YtlnkhlifkooohaaGreatDoorTxP
import Derived.Lib.QuietBelow
import Derived.BigQuiet
import Derived.Test.YtlnkhlifkooohaaGreatDoorTxD1
namespace Go.Proofs.YtlnkhlifkooohaaGreatDoor
open Go.ChangeShapes Go.WideShapes Go.ChangeAt Go.RowKit
namespace Bw
open Sm
set_option maxHeartbeats 16000000 in
set_option maxRecDepth 100000 in
theorem checkMessages_any (hCF : CheckFM) (a : Option Addr) (n c : Nat) (l : List MsV) (w : World) (hF : IsMsgs w a n c l) :
    Calls Tryz.prog 21 #[.slice a n c] w fun e w' => e = .returned (.int .i64 (chkA l)) ∧ Below w.heap.size w w' := by
  have hlen := hF.row.len
  have hn63 : (n : Int) ≤ 9223372036854775807 := by have h1 := hF.row.le; have h2 := hF.row.max; unfold maxLen at h2; omega
  have HF := Hid.mk hF
  have hR : chkA l = if 20 < n then 2 else firstE (allE l) n := by unfold chkA; rw [hlen]
  rw [hR]
  have HCK := Hid.mk (fun i (hi : i < n) W (hb : Below w.heap.size w W) => checkMessage_any hCF (l.getD i noM) W ((hF.each _ (hF.mem hi)).kept hb))
  have HG : Hid (∀ i, allE l i = if chkM (l.getD i noM).m = 0 then (if ((l.take i).any fun a => clB a.m (l.getD i noM).m) = true then 9 else 0) else chkM (l.getD i noM).m) := Hid.mk (fun i => rfl)
  have HANY : Hid (∀ i v, i ≤ n → (∀ j, j < i → clB (l.getD j noM).m v = false) → ((l.take i).any fun a => clB a.m v) = false) := Hid.mk (fun i v hi h => by
    rw [List.any_eq_false]
    intro x hx
    rw [List.mem_take_iff_getElem] at hx
    obtain ⟨j, hj, rfl⟩ := hx
    have := h j (by omega)
    rw [getD_at (by omega)] at this
    rw [this]
    simp)
  have HANY2 : Hid (∀ i v j, i ≤ n → j < i → clB (l.getD j noM).m v = true → ((l.take i).any fun a => clB a.m v) = true) := Hid.mk (fun i v j hi hj h => by
    rw [List.any_eq_true]
    refine ⟨l.getD j noM, ?_, h⟩
    rw [getD_at (by omega), List.mem_take_iff_getElem]
    exact ⟨j, by omega, rfl⟩)
  generalize allE l = G at *
  clear hR hF hlen
  by_cases h20 : 20 < n
  · rw [if_pos h20]
    have h20' : (20 : Int) < (n : Int) := by omega
    clear h20
    go_enter Tryz.func21, Tryz.ntmps21
    go_wp2_with fail
    go_ret
    exact ⟨rfl, Below.refl _ _⟩
  · rw [if_neg h20]
    have h20' : (n : Int) ≤ 20 := by omega
    clear h20
    go_enter Tryz.func21, Tryz.ntmps21
    go_wp2_with fail
    go_loopw [13] (fun i wr => ∃ k : Nat, k ≤ n ∧ i = .int .i64 k ∧ Hid (firstE G k = 0) ∧ Hid (Below w.heap.size w wr)) (fun i _ => n - (intOf i).toNat)
    case atStart => exact ⟨0, Nat.zero_le _, rfl, Hid.mk rfl, Hid.mk (Below.refl _ _)⟩
    case round =>
      obtain ⟨k, hk, rfl, HF0, HB⟩ := hrel
      by_cases hlt : k < n
      · have hlt' : (k : Int) < (n : Int) := by omega
        obtain ⟨x, hx⟩ := HF.out.row.some hlt
        subst hx
        have hAt := (HF.out.kept HB.out).at hlt
        have HBX := Hid.mk (ms_box wr (l.getD k noM))
        have HBA := Hid.mk (MsAt.box wr (l.getD k noM))
        have HC := Hid.mk (HCK.out k hlt)
        have HGk := Hid.mk (HG.out k)
        have HA1 := Hid.mk (HANY.out k (l.getD k noM).m hk)
        have HA2 := Hid.mk (fun j => HANY2.out k (l.getD k noM).m j hk)
        generalize (l.take k).any (fun a => clB a.m (l.getD k noM).m) = AN at *
        have HVV : Hid (∃ y, y = l.getD k noM) := Hid.mk ⟨_, rfl⟩
        obtain ⟨v, hv⟩ := HVV.out
        rw [← hv] at hAt HC HGk
        simp only [← hv] at HBX HBA HA1 HA2
        clear hv HVV
        generalize chkM v.m = E at *
        have HCL : Hid (∀ b : Msg, clB b v.m = (decide (b.nm = v.m.nm) || ((b.id == v.m.id) && (b.lo == v.m.lo)))) := Hid.mk (fun _ => rfl)
        obtain ⟨⟨mid, mlo, mnm, size, mch, sigs⟩, ma, mn, mcap⟩ := v
        obtain ⟨c0, c1, c2, c3, c4, c5⟩ := hAt
        unfold msC at HBX HBA
        unfold msV at HC
        simp only at HBX HBA HC HA1 HA2 HCL c0 c1 c2 c3 c4 c5
        generalize hclb : (fun b : Msg => clB b ⟨mid, mlo, mnm, size, mch, sigs⟩) = CL at *
        have HCE : Hid (∀ b, clB b ⟨mid, mlo, mnm, size, mch, sigs⟩ = CL b) := Hid.mk (fun b => by rw [← hclb])
        simp only [HCE.out] at HA1 HA2 HCL
        clear hclb HCE
        have hle := HF.out.row.le
        have hkc : k ≤ c := by omega
        have hkc' : (k : Int) ≤ (c : Int) := by omega
        clear hle
        by_cases hE : E = 0
        · subst hE
          have HG2 : Hid (G k = if AN = true then 9 else 0) := Hid.mk (by
            have h9 := HGk.out
            simp only [if_true] at h9
            exact h9)
          clear HGk
          go_wp2_with fail
          refine (HC.out _ (bl2 HB.out HBX.out)).mono ?_
          rintro e w1 ⟨rfl, hb1⟩
          have HB1 := Hid.mk (bl2 HB.out (bl2 HBX.out hb1))
          have HAA := Hid.mk (HBA.out.kept hb1)
          clear hb1 c0 c1 c2 c3 c4 c5
          go_wp2_with fail
          go_loopw [27] (fun i wr => ∃ q : Nat, q ≤ k ∧ i = .int .i64 q ∧ Hid (∀ j, j < q → CL (l.getD j noM).m = false) ∧ Hid (Below w1.heap.size w1 wr)) (fun i _ => k - (intOf i).toNat)
          case atStart => exact ⟨0, Nat.zero_le _, rfl, Hid.mk (fun j hj => absurd hj (Nat.not_lt_zero _)), Hid.mk (Below.refl _ _)⟩
          case round =>
            obtain ⟨q, hq, rfl, HQ, HBq⟩ := hrel
            by_cases hlq : q < k
            · have hlq' : (q : Int) < (k : Int) := by omega
              have hqn : q < n := by omega
              have hAq := (HF.out.kept (bl2 HB1.out HBq.out)).at hqn
              have HBX2 := Hid.mk (ms_box wr (l.getD q noM))
              have hmq := (HAA.out.kept HBq.out).kept HBX2.out
              have HCq := Hid.mk (HCL.out (l.getD q noM).m)
              have HA2q := Hid.mk (HA2.out q hlq)
              have HSTEP : Hid (CL (l.getD q noM).m = false → ∀ j, j < q + 1 → CL (l.getD j noM).m = false) := Hid.mk (fun h0 j hj => by
                rcases Nat.lt_or_ge j q with h | h
                · exact HQ.out j h
                · have e9 : j = q := by omega
                  subst e9
                  exact h0)
              generalize hCV : CL (l.getD q noM).m = CV at *
              clear hCV
              have HVV : Hid (∃ y, y = l.getD q noM) := Hid.mk ⟨_, rfl⟩
              obtain ⟨v', hv'⟩ := HVV.out
              rw [← hv'] at hAq
              simp only [← hv'] at HBX2 hmq HCq
              clear hv' HVV
              obtain ⟨⟨mid', mlo', mnm', size', mch', sigs'⟩, ma', mn', mcap'⟩ := v'
              obtain ⟨d0, d1, d2, d3, d4, d5⟩ := hAq
              unfold msC at HBX2 hmq
              obtain ⟨r0, r1, r2, r3, r4, r5⟩ := hmq
              simp only at HBX2 HCq d0 d1 d2 d3 d4 d5 r0 r1 r2 r3 r4 r5
              have HYES : Hid (CV = true → firstE G n = 9) := Hid.mk (fun h => by
                have h9 : AN = true := HA2q.out h
                rw [firstE_hit HF0.out (by rw [HG2.out, if_pos h9]; decide) hlt, HG2.out, if_pos h9])
              by_cases hnm : mnm' = mnm
              · have e0 := str_yes hnm
                have HV := Hid.mk (HYES.out (by rw [HCq.out]; simp [hnm]))
                clear hnm
                go_wp2_with fail
                go_ret
                exact ⟨by rw [HV.out]; rfl, bl2 HB1.out (bl2 HBq.out HBX2.out)⟩
              · have e0 := str_no hnm
                have HCq2 : Hid (CV = ((mid' == mid) && (mlo' == mlo))) := Hid.mk (by rw [HCq.out]; simp [hnm])
                clear hnm
                by_cases hid : mid' = mid
                · subst hid
                  by_cases hlo : mlo' = mlo
                  · subst hlo
                    have HV := Hid.mk (HYES.out (by rw [HCq2.out]; simp))
                    go_wp2_with fail
                    go_ret
                    exact ⟨by rw [HV.out]; rfl, bl2 HB1.out (bl2 HBq.out HBX2.out)⟩
                  · have hlb : (mlo' == mlo) = false := by simpa using hlo
                    have HNO := Hid.mk (HSTEP.out (by rw [HCq2.out, hlb]; simp))
                    clear hlo
                    go_wp2_with fail
                    go_roundw
                    case rel => exact ⟨q + 1, by omega, by go_num, HNO, Hid.mk (bl2 HBq.out HBX2.out)⟩
                    case measure => simp [intOf]; omega
                · have hib : (mid' == mid) = false := by simpa using hid
                  have HNO := Hid.mk (HSTEP.out (by rw [HCq2.out, hib]; rfl))
                  clear hid
                  go_wp2_with fail
                  go_roundw
                  case rel => exact ⟨q + 1, by omega, by go_num, HNO, Hid.mk (bl2 HBq.out HBX2.out)⟩
                  case measure => simp [intOf]; omega
            · have e : q = k := by omega
              subst e
              have HAN := Hid.mk (HA1.out HQ.out)
              go_wp2_with fail
              go_roundw
              case rel => exact ⟨q + 1, by omega, by go_num, Hid.mk (firstE_step HF0.out (by rw [HG2.out, HAN.out]; rfl)), Hid.mk (bl2 HB1.out HBq.out)⟩
              case measure => simp [intOf]; omega
        · have hne : (E != 0) = true := by simpa using hE
          have HV : Hid (G k = E) := Hid.mk (by rw [HGk.out, if_neg hE])
          have HE := Hid.mk hE
          clear hE HGk
          go_wp2_with fail
          refine (HC.out _ (bl2 HB.out HBX.out)).mono ?_
          rintro e w1 ⟨rfl, hb1⟩
          have HB1 := Hid.mk (bl2 HB.out (bl2 HBX.out hb1))
          clear hb1
          go_wp2_with fail
          go_ret
          exact ⟨by rw [firstE_hit HF0.out (by rw [HV.out]; exact HE.out) hlt, HV.out]; rfl, HB1.out⟩
      · have e : k = n := by omega
        subst e
        go_wp2_with fail
        go_ret
        exact ⟨by rw [HF0.out]; rfl, HB.out⟩
end Bw
end Go.Proofs.YtlnkhlifkooohaaGreatDoor
namespace Go.Proofs.YtlnkhlifkooohaaGreatDoor
open Go.ChangeShapes Go.WideShapes Go.ChangeAt Go.RowKit Go.Sort
namespace Bw
open Sm
end Bw
end Go.Proofs.YtlnkhlifkooohaaGreatDoor
namespace Go.Proofs.YtlnkhlifkooohaaGreatDoor
open Go.ChangeShapes Go.WideShapes Go.ChangeAt Go.RowKit
namespace Bw
open Sm
theorem bA_nil : bA [] = ⟨#[]⟩ := rfl
set_option maxHeartbeats 4000000 in
set_option maxRecDepth 100000 in
theorem tprint_bad (hCF : CheckFM) (a : Option Addr) (n c : Nat) (l : List MsV) (w : World) (hF : IsMsgs w a n c l) (hS : SizesAt w) (hT : TxT w) (hE : chkA l ≠ 0) :
    Calls Tryz.prog 5 #[.slice a n c] w fun e w' => e = .returned (.bool true) ∧ Below w.heap.size w w' := by
  have hpr := print_any a n c l w hF hS hT
  have e1 : printE l = chkA l := by unfold printE; rw [if_pos hE]
  have e2 : printS l = [] := by unfold printS; rw [e1, if_neg hE]
  rw [e1, e2, bA_nil] at hpr
  have HPR := Hid.mk hpr
  have HCM := Hid.mk (fun W (h : Below w.heap.size w W) => checkMessages_any hCF a n c l W (hF.kept h))
  have HTD := Hid.mk (fun W (h : Below w.heap.size w W) => texted_any W (hS.kept h) (hT.kept h))
  have hne : (chkA l != 0) = true := by simpa using hE
  clear hE hF hS hT hpr e1 e2
  generalize chkA l = E at *
  go_enter Tryz.func5, Tryz.ntmps5
  go_wp2_with fail
  refine HPR.out.mono ?_
  rintro e w1 ⟨rfl, hb1⟩
  have HB1 := Hid.mk hb1
  clear hb1 HPR
  go_wp2_with fail
  refine (HCM.out _ HB1.out).mono ?_
  rintro e w2 ⟨rfl, hb2⟩
  have HB2 := Hid.mk (bl2 HB1.out hb2)
  clear hb2 HB1
  go_wp2_with fail
  refine (HTD.out _ HB2.out).mono ?_
  rintro e w3 ⟨rfl, hb3⟩
  have HB3 := Hid.mk (bl2 HB2.out hb3)
  clear hb3 HB2
  go_wp2_with fail
  refine (HTD.out _ HB3.out).mono ?_
  rintro e w4 ⟨rfl, hb4⟩
  have HB4 := Hid.mk (bl2 HB3.out hb4)
  clear hb4 HB3
  go_wp2_with fail
  go_ret
  exact ⟨rfl, HB4.out⟩
set_option maxHeartbeats 4000000 in
set_option maxRecDepth 100000 in
theorem tprint_ok (hCF : CheckFM) (a : Option Addr) (n c : Nat) (l : List MsV) (w : World) (hF : IsMsgs w a n c l) (hS : SizesAt w) (hT : TxT w) (hE : chkA l = 0) :
    Calls Tryz.prog 5 #[.slice a n c] w fun e w' => e = .returned (.bool true) ∧ Below w.heap.size w w' := by
  obtain ⟨h20, hall⟩ := chkA_ok hE
  have hlen : l.length = n := hF.row.len
  have hMB : ∀ k, k < n → MB (l.getD k noM).m := fun k hk => by
    have h1 : k < l.length := by omega
    rw [getD_at h1]
    exact mb_of (chkM_ok (hall _ (List.getElem_mem h1)))
  have hpr := print_any a n c l w hF hS hT
  have hcm := fun W (h : Below w.heap.size w W) => checkMessages_any hCF a n c l W (hF.kept h)
  rw [hE] at hcm
  have HCM := Hid.mk hcm
  have HTD := Hid.mk (fun W (h : Below w.heap.size w W) => texted_any W (hS.kept h) (hT.kept h))
  have HTO := Hid.mk (fun W (h : Below w.heap.size w W) => textOf_any a n c l W (hF.kept h) (by omega) hMB (hT.kept h))
  have e0 : printE l = if 4000 < (textT (msL l)).length then 2 else 0 := by unfold printE; rw [if_neg (by rw [hE]; simp)]
  have e9 : printS l = if printE l = 0 then textT (msL l) else [] := rfl
  have hTL : (textT (msL l)).length ≤ 42000 := by
    have h1 := textT_len (l := msL l) (fun m hm => by
      unfold msL at hm
      rw [List.mem_map] at hm
      obtain ⟨v, hv, rfl⟩ := hm
      exact mb_of (chkM_ok (hall v hv)))
    have h2 : (msL l).length ≤ 20 := by unfold msL; simp; omega
    omega
  obtain ⟨X, hX⟩ : ∃ X, X = bA (textT (msL l)) := ⟨_, rfl⟩
  have hXz : X.size = (textT (msL l)).length := by rw [hX, bA_size]
  have hXz' : (X.size : Int) ≤ 42000 := by omega
  rw [← hX] at HTO
  by_cases hbig : 4000 < (textT (msL l)).length
  · rw [if_pos hbig] at e0
    rw [e0, if_neg (by decide)] at e9
    rw [e0, e9, bA_nil] at hpr
    have HPR := Hid.mk hpr
    have hb' : (4000 : Int) < (X.size : Int) := by omega
    clear hE hF hS hT hpr e0 e9 hX hXz hTL hbig hMB hall h20 hlen hcm
    go_enter Tryz.func5, Tryz.ntmps5
    go_wp2_with fail
    refine HPR.out.mono ?_
    rintro e w1 ⟨rfl, hb1⟩
    have HB1 := Hid.mk hb1
    clear hb1 HPR
    go_wp2_with fail
    refine (HCM.out _ HB1.out).mono ?_
    rintro e w2 ⟨rfl, hb2⟩
    have HB2 := Hid.mk (bl2 HB1.out hb2)
    clear hb2 HB1
    go_wp2_with fail
    refine (HTD.out _ HB2.out).mono ?_
    rintro e w3 ⟨rfl, hb3⟩
    have HB3 := Hid.mk (bl2 HB2.out hb3)
    clear hb3 HB2
    go_wp2_with fail
    refine (HTO.out _ HB3.out).mono ?_
    rintro e w4 ⟨rfl, hb4⟩
    have HB4 := Hid.mk (bl2 HB3.out hb4)
    clear hb4 HB3
    go_wp2_with fail
    go_ret
    exact ⟨rfl, HB4.out⟩
  · rw [if_neg hbig] at e0
    rw [e0, if_pos rfl] at e9
    rw [e0, e9, ← hX] at hpr
    have HPR := Hid.mk hpr
    have hb' : ¬ ((4000 : Int) < (X.size : Int)) := by omega
    clear hE hF hS hT hpr e0 e9 hX hXz hTL hbig hMB hall h20 hlen hcm
    go_enter Tryz.func5, Tryz.ntmps5
    go_wp2_with fail
    refine HPR.out.mono ?_
    rintro e w1 ⟨rfl, hb1⟩
    have HB1 := Hid.mk hb1
    clear hb1 HPR
    go_wp2_with fail
    refine (HCM.out _ HB1.out).mono ?_
    rintro e w2 ⟨rfl, hb2⟩
    have HB2 := Hid.mk (bl2 HB1.out hb2)
    clear hb2 HB1
    go_wp2_with fail
    refine (HTD.out _ HB2.out).mono ?_
    rintro e w3 ⟨rfl, hb3⟩
    have HB3 := Hid.mk (bl2 HB2.out hb3)
    clear hb3 HB2
    go_wp2_with fail
    refine (HTO.out _ HB3.out).mono ?_
    rintro e w4 ⟨rfl, hb4⟩
    have HB4 := Hid.mk (bl2 HB3.out hb4)
    clear hb4 HB3
    go_wp2_with fail
    go_ret
    exact ⟨by first | rfl | simp, HB4.out⟩
end Bw
end Go.Proofs.YtlnkhlifkooohaaGreatDoor
