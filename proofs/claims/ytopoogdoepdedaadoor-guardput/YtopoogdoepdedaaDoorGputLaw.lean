/- GuardPut: a counter and a sum are put into any data as the document says, errors too. -/
import Derived.Test.YtopoogdoepdedaaDoorGputBad
namespace Go.Proofs.YtopoogdoepdedaaDoor
open Go.ChangeShapes Go.WideShapes Go.ChangeAt Go.RowKit Go.Sort
namespace Bw
open Bm Cm
set_option maxHeartbeats 16000000 in
set_option maxRecDepth 100000 in
theorem gput_ok (key n : Nat) (x : Addr) (len cap : Nat) (l : List UInt8) (w : World) (hR : RulesAt w) (hB : w.cell? ⟨4, 1, none⟩ = some (.int .u8 1)) (hD : IsBytes w (some x) len cap l) (hk : key ≤ 65535) (hn : n ≤ 14) (h2 : 2 ≤ len) (h64 : len ≤ 64) :
    Calls Tryd.prog 3 #[.int .i64 key, .int .i64 n, .slice (some x) len cap] w fun e w' => e = .returned (.bool true) ∧ Below w.heap.size w w' := by
  have hmx : len ≤ maxLen := Nat.le_trans hD.2.1 hD.2.2.1
  have hll : l.length = len := hD.1
  have HCL := Hid.mk (fun W (h : Below w.heap.size w W) => cloneSl_some x len cap l W (isBytes_below hD h) (by omega))
  have HPU := Hid.mk (fun g c' W (h : Below w.heap.size w W) (hY : IsBytes W (some ⟨g, 0, none⟩) len c' l) => put_ok key n (some ⟨g, 0, none⟩) len c' l W (hR.kept h) hY hk hn h2 h64)
  have HGD := Hid.mk (fun W (h : Below w.heap.size w W) => guarded_any W (hR.kept h))
  have HD := Hid.mk (fun W (h : Below w.heap.size w W) => isBytes_below hD h)
  have HEQ := Hid.mk (fun b c' W (h : Below w.heap.size w W) (hY : IsBytes W b len c' l) => equalB_true W b (some x) len c' cap l hmx (hasG hY) (hasG (HD.out W h)))
  have HEQ2 := Hid.mk (fun b b' c' c'' W (hY : IsBytes W b len c' (putL key n l)) (hY' : IsBytes W b' len c'' (putL key n l)) => equalB_true W b b' len c' c'' (putL key n l) hmx (hasG hY) (hasG hY'))
  have HSR := Hid.mk (fun g c' L W (h : Below w.heap.size w W) (hY : IsBytes W (some ⟨g, 0, none⟩) len c' L) => guardSum_any key ⟨g, 0, none⟩ len c' L W (cell_kept h hB) hY hk h2 h64)
  obtain ⟨y, hy⟩ : ∃ y, y = (l.getD 1 0).toNat := ⟨_, rfl⟩
  have hy256 : y < 256 := by rw [hy]; exact UInt8.toNat_lt _
  have hcl := ctr_lt hy256 (show n < 16 by omega)
  have hset1 := cells_setG l 1 (ctr y n) hcl
  have e1 : l.set 1 (UInt8.ofNat (ctr y n)) = cntL n l := by unfold cntL; rw [hy]
  rw [e1] at hset1
  have hset0 := cells_setG (cntL n l) 0 (gSum key (cntL n l)) (gSum_lt _ _)
  have e0 : (cntL n l).set 0 (UInt8.ofNat (gSum key (cntL n l))) = putL key n l := rfl
  rw [e0] at hset0
  have hat1 := cells_atG l 1 (by omega)
  rw [← hy] at hat1
  have hcn : (cntL n l).length = len := by rw [cntL_len]; exact hll
  have hat0 := cells_atG (cntL n l) 0 (by omega)
  have HAT1 := Hid.mk hat1
  have HAT0 := Hid.mk hat0
  have HSET1 := Hid.mk hset1
  have HSET0 := Hid.mk hset0
  have hS := gSum_lt key (cntL n l)
  obtain ⟨S, hGS⟩ : ∃ S, gSum key (cntL n l) = S := ⟨_, rfl⟩
  rw [hGS] at hS HSET0
  have HGS := Hid.mk hGS
  obtain ⟨cy, hcy⟩ : ∃ cy, ctr y n = cy := ⟨_, rfl⟩
  rw [hcy] at hcl HSET1
  have hq1 : (y : Int).tdiv 16 = (y : Int) / 16 := Int.tdiv_eq_ediv_of_nonneg (by omega)
  have hq2 : (y : Int) / 16 * 16 + (n : Int) = (cy : Int) := by rw [← hcy]; unfold ctr; omega
  have hq3 : (y : Int) / 16 * 16 ≤ 240 := by omega
  have hq4 : (y : Int) / 16 ≤ 15 := by omega
  have hq5 : 0 ≤ (y : Int) / 16 := by omega
  have hcl' : (cy : Int) ≤ 255 := by omega
  have hy' : (y : Int) ≤ 255 := by omega
  have hn' : (n : Int) ≤ 14 := by omega
  have hn0 : ¬ ((n : Int) < 0) := by omega
  have hn1 : ¬ (14 < (n : Int)) := by omega
  have hk0 : ¬ ((key : Int) < 0) := by omega
  have hk1 : ¬ (65535 < (key : Int)) := by omega
  have hlen0 : ¬ ((len : Int) < 2) := by omega
  have hlen1 : ¬ (64 < (len : Int)) := by omega
  have hlen2 : (2 : Int) ≤ (len : Int) := by omega
  have hlen3 : 1 < len := by omega
  have hlen4 : 0 < len := by omega
  have hS' : (S : Int) ≤ 255 := by omega
  clear hy hy256 hcl hset1 e1 hset0 e0 hat1 hat0 hcn hGS hcy hD hR hB hll h64 hmx hk hn
  generalize ((cntL n l).getD 0 0).toNat = y0 at *
  generalize cntL n l = L at *
  generalize putL key n l = LP at *
  go_enter Tryd.func3, Tryd.ntmps3
  go_wp2_with fail
  refine (HCL.out _ (Below.refl _ _)).mono ?_
  rintro e w1 ⟨g1, c1, rfl, hO1, hg1, hb1⟩
  have HY1 := Hid.mk (isBytes_ownG hO1)
  have HB1 := Hid.mk hb1
  clear hO1 hg1 hb1
  go_wp2_with fail
  refine (HPU.out _ _ _ HB1.out HY1.out).mono ?_
  rintro e w2 ⟨g2, c2, rfl, hO2, hg2, hb2⟩
  have HY2 := Hid.mk (isBytes_below HY1.out hb2)
  have HB2 := Hid.mk (bl2 HB1.out hb2)
  have HP2 := Hid.mk (isBytes_ownG hO2)
  clear hb2 HY1 HB1 HPU hO2 hg2
  go_wp2_with fail
  refine (HGD.out _ HB2.out).mono ?_
  rintro e w3 ⟨rfl, hb3⟩
  have HY3 := Hid.mk (isBytes_below HY2.out hb3)
  have HP3 := Hid.mk (isBytes_below HP2.out hb3)
  have HB3 := Hid.mk (bl2 HB2.out hb3)
  clear hb3 HY2 HB2 HP2
  go_wp2_with fail
  refine (HEQ.out _ _ _ HB3.out HY3.out).mono ?_
  rintro e w4 ⟨rfl, hb4⟩
  have HP4 := Hid.mk (isBytes_below HP3.out hb4)
  have HB4 := Hid.mk (bl2 HB3.out hb4)
  clear hb4 HY3 HB3 HP3 HEQ HGD
  go_wp2_with fail
  refine (HCL.out _ HB4.out).mono ?_
  rintro e w5 ⟨g, c, rfl, hown, hg, hb5⟩
  have HG := Hid.mk hg
  have HO5 := Hid.mk hown
  have hc5 := HO5.out.cellAt 1 (by omega)
  have hf5 := HO5.out.frozenAt 1
  rw [HAT1.out] at hc5
  have hst := HO5.out.stored 1 (.int .u8 (cy : Int))
  rw [HSET1.out] at hst
  have hB6 := hb5.grown hst.2 hb5.size (fun q hq => by cases hq; exact HG.out)
  have HB6 := Hid.mk hB6
  have HO6 := Hid.mk hst.1
  have HSM := Hid.mk (HSR.out g c L _ (bl2 HB4.out hB6) (isBytes_ownG hst.1))
  rw [HGS.out] at HSM
  clear hown hg hb5 hst HCL hB6 HSR HO5
  go_wp2_with fail
  refine HSM.out.mono ?_
  rintro e w7 ⟨rfl, hb7⟩
  have HO7 := Hid.mk (ownsRow_below HO6.out hb7)
  have HB7 := Hid.mk (bl2 HB6.out hb7)
  have hc7 := HO7.out.cellAt 0 (by omega)
  have hf7 := HO7.out.frozenAt 0
  rw [HAT0.out] at hc7
  have hst := HO7.out.stored 0 (.int .u8 (S : Int))
  rw [HSET0.out] at hst
  have HB8 := Hid.mk (HB7.out.grown hst.2 HB7.out.size (fun q hq => by cases hq; exact HG.out))
  have HE8 := Hid.mk (HEQ2.out (some ⟨g2, 0, none⟩) (some ⟨g, 0, none⟩) c2 c _ (isBytes_below HP4.out HB8.out) (isBytes_ownG hst.1))
  clear hb7 hst hc5 hf5 HSM HO6 HB6 HO7 HB7 HEQ2
  go_wp2_with fail
  refine HE8.out.mono ?_
  rintro e w9 ⟨rfl, hb9⟩
  have HB9 := Hid.mk (bl2 HB4.out (bl2 HB8.out hb9))
  clear hb9
  go_wp2_with fail
  go_ret
  exact ⟨rfl, HB9.out⟩
theorem guardPut_law (key ctr : Int) (a : Option Addr) (len cap : Nat) (l : List UInt8) (w : World) (hR : RulesAt w) (hB : w.cell? ⟨4, 1, none⟩ = some (.int .u8 1)) (hD : IsBytes w a len cap l) (hlen : len ≤ 140737488351232) :
    Calls Tryd.prog 3 #[.int .i64 key, .int .i64 ctr, .slice a len cap] w fun e w' => e = .returned (.bool true) ∧ Below w.heap.size w w' := by
  by_cases h0 : key < 0
  · exact gput_kneg key ctr a len cap l w hR hD hlen h0
  by_cases h1 : 65535 < key
  · exact gput_kbig key ctr a len cap l w hR hD hlen h1
  by_cases h2 : ctr < 0
  · exact gput_cneg key ctr a len cap l w hR hD hlen ⟨by omega, by omega⟩ h2
  by_cases h3 : 14 < ctr
  · exact gput_cbig key ctr a len cap l w hR hD hlen ⟨by omega, by omega⟩ h3
  by_cases h4 : len < 2
  · exact gput_short key ctr a len cap l w hR hD hlen ⟨by omega, by omega⟩ ⟨by omega, by omega⟩ h4
  by_cases h5 : 64 < len
  · exact gput_long key ctr a len cap l w hR hD hlen ⟨by omega, by omega⟩ ⟨by omega, by omega⟩ h5
  obtain ⟨k, rfl⟩ : ∃ k : Nat, key = (k : Int) := ⟨key.toNat, by omega⟩
  obtain ⟨c, rfl⟩ : ∃ c : Nat, ctr = (c : Int) := ⟨ctr.toNat, by omega⟩
  cases a with
  | none => exact absurd (hD.2.2.2.1 rfl) (by omega)
  | some x => exact gput_ok k c x len cap l w hR hB hD (by omega) (by omega) (by omega) (by omega)
end Bw
end Go.Proofs.YtopoogdoepdedaaDoor
