/- The law RouteGoes. -/
import Derived.Test.YtapjiopnjfldhaaDoorRtQueue2
import Derived.Test.YtapjiopnjfldhaaDoorRtLed
import Derived.Deep.LoopGhost
namespace Go.Proofs.YtapjiopnjfldhaaDoor
open Go.ChangeShapes Go.WideShapes Go.ChangeAt Go.RowKit
namespace Bw
open Bm Cm
set_option linter.unusedVariables false
def plOf (x : LnR) : Pl := (x.bs, x.id)
theorem plOf_map {M : List LnR} {ps : List Pl} {lo fa re : Bool} {sz : Int} {len : Nat} (h : M.map LnR.k = ps.map (plK lo fa re sz len)) : M.map plOf = ps := by
  have e := congrArg (List.map (fun t : Int × Int × Int × Bool × Bool × Bool × Int × Nat => ((t.2.1, t.2.2.1) : Pl))) h
  rw [List.map_map, List.map_map] at e
  have e1 : ((fun t : Int × Int × Int × Bool × Bool × Bool × Int × Nat => ((t.2.1, t.2.2.1) : Pl)) ∘ LnR.k) = plOf := rfl
  have e2 : ((fun t : Int × Int × Int × Bool × Bool × Bool × Int × Nat => ((t.2.1, t.2.2.1) : Pl)) ∘ plK lo fa re sz len) = id := rfl
  rw [e1, e2, List.map_id] at e
  exact e
theorem keys_of {M : List LnR} {ps : List Pl} {lo fa re : Bool} {sz : Int} {len : Nat} (h : M.map LnR.k = ps.map (plK lo fa re sz len)) : ∀ x ∈ M, x.k = plK lo fa re sz len (plOf x) := by
  intro x hx
  have : x.k ∈ ps.map (plK lo fa re sz len) := by rw [← h]; exact List.mem_map_of_mem hx
  obtain ⟨p, -, hp⟩ := List.mem_map.1 this
  rw [← hp]
  have e := congrArg (fun t : Int × Int × Int × Bool × Bool × Bool × Int × Nat => ((t.2.1, t.2.2.1) : Pl)) hp
  have e2 : p = plOf x := e
  rw [← e2]
theorem qu_one {w : World} {bus id : Int} {lo fa re : Bool} {sz : Int} {fa0 : Option Addr} {len cap : Nat} {dt : List UInt8} {base : Nat} (hb : base ≤ w.heap.size) (hD : IsBytes w fa0 len cap dt) : QuAt (w.alloc (.cells #[.int .i64 0, .int .i64 bus, .int .i64 id, .bool lo, .bool fa, .bool re, .int .i64 sz, .slice fa0 len cap] 49)) base w.heap.size (.slice (some ⟨w.heap.size, 0, none⟩) 1 1) [⟨0, bus, id, lo, fa, re, sz, fa0, len, cap⟩] dt := by
  refine ⟨⟨0, 1, _, rfl, heap_alloc_new w _, Nat.le_refl _, by unfold maxLen; omega, by simp, fun j u hj => ?_⟩, hb, fun x hx => ?_, fun x hx h0 y hy e => ?_⟩
  · rw [Nat.zero_add, ← List.getElem?_toArray] at *
    exact hj
  · rw [List.mem_singleton] at hx; subst hx
    exact isBytes_below hD (awB w _)
  · rw [List.mem_singleton] at hx; subst hx
    have hlt := block_lt_of_cell (hD.2.2.2.2 y hy 0 h0)
    have hbk : (y.add 0).block = y.block := by unfold Addr.add; split <;> rfl
    rw [hbk] at hlt
    omega
set_option maxHeartbeats 16000000 in
set_option maxRecDepth 100000 in
theorem rgoes_any (a : Option Addr) (n c : Nat) (rs : List Rt) (bus id : Int) (lo fa re : Bool) (sz : Int) (fa0 : Option Addr) (len cap : Nat) (dt : List UInt8) (w : World) (hR : IsRts w a n c rs) (hL : LastsAt w) (hS : SizesAt w) (hD : IsBytes w fa0 len cap dt) (hn : n ≤ 2513169434843) :
    Calls Tryd.prog 5 #[.slice a n c, .int .i64 bus, frameV id lo fa re sz fa0 len cap] w fun e w' => e = .returned (.bool true) ∧ Below w.heap.size w w' := by
  have hmm := @run_makeMap Tryd.prog
  have hb0 := awB w (frameC id lo fa re sz fa0 len cap)
  have HF0 := Hid.mk (Row6.new w id lo fa re sz fa0 len cap)
  have HB0 := Hid.mk hb0
  have HWO := Hid.mk (spread_any sortLn a n c rs bus id lo fa re sz fa0 len cap dt _ (hR.kept hb0) (hL.kept hb0) (hS.kept hb0) (isBytes_below hD hb0) (by omega))
  have HR0 := Hid.mk (hR.kept hb0)
  have HL0 := Hid.mk (hL.kept hb0)
  have HS0 := Hid.mk (hS.kept hb0)
  have HD0 := Hid.mk (isBytes_below hD hb0)
  have HLN := Hid.mk hR.len
  have HNN := Hid.mk hn
  have HDL := Hid.mk (fun W h1 h2 => routed_any W h1 h2)
  have hn63 : (n : Int) ≤ 2513169434843 := by omega
  clear hR hL hS hD hb0 hn
  unfold frameC at HF0 HR0 HL0 HS0 HD0 HB0 HWO
  unfold frameV at HWO ⊢
  go_enter Tryd.func5, Tryd.ntmps5
  go_wp2_with fail
  generalize w.alloc (.cells #[.int .i64 id, .bool lo, .bool fa, .bool re, .int .i64 sz, .slice fa0 len cap] 28) = W0 at *
  go_loopw [22] (fun i wr => ∃ k : Nat, k ≤ n ∧ i = .int .i64 k ∧ wr = W0 ∧ Hid (∀ j, j < k → (rs.getD j noR).ev = 0)) (fun i _ => n - (intOf i).toNat)
  case atStart => exact ⟨0, Nat.zero_le _, rfl, rfl, Hid.mk (fun j hj => absurd hj (Nat.not_lt_zero _))⟩
  case round =>
    obtain ⟨k, hk, rfl, hwr, HEV⟩ := hrel
    subst hwr
    by_cases hlt : k < n
    · have hlt' : (k : Int) < (n : Int) := by omega
      obtain ⟨x, rfl⟩ := HR0.out.some hlt
      have c6 := (HR0.out.cell x rfl k hlt).c6
      obtain ⟨ev, hev⟩ : ∃ ev, ev = (rs.getD k noR).ev := ⟨_, rfl⟩
      rw [← hev] at c6
      by_cases h0 : ev = 0
      · have HE2 : Hid (∀ j, j < k + 1 → (rs.getD j noR).ev = 0) := Hid.mk (fun j hj => by
          by_cases e : j = k
          · subst e; rw [← hev]; exact h0
          · exact HEV.out j (by omega))
        subst h0
        clear hev
        go_wp2_with fail
        go_roundw
        case rel => exact ⟨k + 1, by omega, by go_num, by first | trivial | rfl, HE2⟩
        case measure => simp [intOf]; omega
      · have hne : (ev != 0) = true := by simpa using h0
        clear hev h0 HEV
        go_wp2_with fail
        refine (HDL.out _ HL0.out HS0.out).mono ?_
        rintro e w1 ⟨rfl, hb1⟩
        have HBe := Hid.mk (bl2 HB0.out hb1)
        clear hb1
        go_wp2_with fail
        refine bodyPost_ret (results_tmp rfl _ _ _) rfl ?_
        exact ⟨rfl, HBe.out⟩
    · obtain rfl : n = k := by omega
      obtain ⟨p0, p1, p2, p3, p4, p5⟩ := HF0.out.fr
      go_wp2_with fail
      refine HWO.out.mono ?_
      rintro e w1 ⟨⟨a1, n1, c1, E1, rfl, hsp1⟩, hb1⟩
      have HB1 := Hid.mk (bl2 HB0.out hb1)
      have HR1 := Hid.mk (HR0.out.kept hb1)
      have HL1 := Hid.mk (HL0.out.kept hb1)
      have HS1 := Hid.mk (HS0.out.kept hb1)
      have HD1 := Hid.mk (isBytes_below HD0.out hb1)
      have HF1 := Hid.mk (HF0.out.kept hb1)
      have HO1 := Hid.mk hsp1
      have HNW := Hid.mk (new_any a n c rs w1 HR1.out HL1.out (by have := HNN.out; omega))
      unfold gaV at HNW
      clear hb1 hsp1 HWO HR0 HL0 HS0 HD0 HF0 HB0 p0 p1 p2 p3 p4 p5
      by_cases hE : E1 = 0
      · subst hE
        have hsp0 : spE rs bus id lo fa re sz len = 0 := Classical.byContradiction fun hc => hc ((HO1.out.bad hc).1.symm)
        have hchk : chkG rs (neg1 n) = 0 := by
          rw [← HLN.out]
          refine Classical.byContradiction fun hc => ?_
          unfold spE at hsp0
          rw [if_pos hc] at hsp0
          exact hc hsp0
        obtain ⟨P, b, hW, hFE, hRD, k1, k2, k3⟩ := HO1.out.ok hsp0
        have hb : b = false := by
          cases b with
          | false => rfl
          | true => have := (k1 rfl).1; omega
        subst hb
        have hPL : P.length ≤ 1000 := Classical.byContradiction fun hc => by have := (k2 rfl (by omega)).1; omega
        obtain ⟨-, hn1, P1, hL1', hperm, -⟩ := k3 rfl hPL
        have HW := Hid.mk hW
        have HFE := Hid.mk hFE
        have HPL := Hid.mk hPL
        have HP1 := Hid.mk hL1'
        have HPM := Hid.mk hperm
        have HN1 := Hid.mk hn1
        have HCK := Hid.mk hchk
        clear hW hFE hRD k1 k2 k3 hPL hn1 hL1' hperm hchk hsp0 HO1
        go_wp2_with fail
        refine HNW.out.mono ?_
        rintro e w2 ⟨hb2, ⟨hX, -⟩ | ⟨-, a2, c2, b2, d2, rfl, hR2, hN2⟩⟩
        · exact absurd HCK.out hX
        have hg2 := awB w2 (gaC a2 n c2 b2 n d2)
        have HB3 := Hid.mk (bl2 (bl2 HB1.out hb2) hg2)
        have HG3 := Hid.mk (GaAt.new w2 a2 n c2 b2 n d2)
        have HR3 := Hid.mk (hR2.kept hg2)
        have HN3 := Hid.mk (hN2.kept hg2)
        have HL3 := Hid.mk ((HL1.out.kept hb2).kept hg2)
        have HS3 := Hid.mk ((HS1.out.kept hb2).kept hg2)
        have HD3 := Hid.mk (isBytes_below (isBytes_below HD1.out hb2) hg2)
        have HF3 := Hid.mk ((HF1.out.kept hb2).kept hg2)
        have HP3 := Hid.mk ((HP1.out.kept hb2).kept hg2)
        unfold gaC at HB3 HG3 HR3 HN3 HL3 HS3 HD3 HF3 HP3
        clear hb2 hg2 hR2 hN2 HB1 HL1 HS1 HD1 HF1 HP1 HNW HR1
        go_wp2_with fail
        generalize w2.alloc (.cells #[.slice a2 n c2, .slice b2 n d2] 25) = W3 at *
        refine (HDL.out _ HL3.out HS3.out).mono ?_
        rintro e w5 ⟨rfl, hb5⟩
        have HB5 := Hid.mk (bl2 HB3.out hb5)
        have HG5 := Hid.mk (HG3.out.kept hb5)
        have HR5 := Hid.mk (HR3.out.kept hb5)
        have HN5 := Hid.mk (HN3.out.kept hb5)
        have HL5 := Hid.mk (HL3.out.kept hb5)
        have HS5 := Hid.mk (HS3.out.kept hb5)
        have HD5 := Hid.mk (isBytes_below HD3.out hb5)
        have HF5 := Hid.mk (HF3.out.kept hb5)
        have HP5 := Hid.mk (HP3.out.kept hb5)
        clear hb5 HB3 HG3 HR3 HN3 HL3 HS3 HD3 HF3 HP3
        have hbm := awB w5 (.map #[] 0)
        obtain ⟨q0, q1, q2, q3, q4, q5⟩ := (HF5.out.kept hbm).fr
        have hss : (w5.alloc (.map #[] 0)).heap.size = w5.heap.size + 1 := by simp
        have HQ6 := Hid.mk (qu_one (bus := bus) (id := id) (lo := lo) (fa := fa) (re := re) (sz := sz) (w := w5.alloc (.map #[] 0)) (base := w5.heap.size + 1) (by rw [hss]; exact Nat.le_refl _) (isBytes_below HD5.out hbm))
        have hbq := awB (w5.alloc (.map #[] 0)) (.cells #[.int .i64 0, .int .i64 bus, .int .i64 id, .bool lo, .bool fa, .bool re, .int .i64 sz, .slice fa0 len cap] 49)
        have HM6 : Hid (SpMap ((w5.alloc (.map #[] 0)).alloc (.cells #[.int .i64 0, .int .i64 bus, .int .i64 id, .bool lo, .bool fa, .bool re, .int .i64 sz, .slice fa0 len cap] 49)) w5.heap.size 0 (.map [])) := Hid.mk (SpMap.kept (World.ownsMap_made w5 Tryd.prog 65 RVp) hbq)
        have HB6 := Hid.mk (bl2 hbm hbq)
        have HS6 : Hid (w5.heap.size + 1 ≤ ((w5.alloc (.map #[] 0)).alloc (.cells #[.int .i64 0, .int .i64 bus, .int .i64 id, .bool lo, .bool fa, .bool re, .int .i64 sz, .slice fa0 len cap] 49)).heap.size) := Hid.mk (by simp)
        rw [hss] at HQ6
        obtain ⟨nx, hnx⟩ : ∃ nx : Pl → List Pl, nx = nxt rs lo fa re sz len := ⟨_, rfl⟩
        rw [← hnx] at HW
        have HNX := Hid.mk hnx
        have hsP : (bus, id) ∈ P := by
          obtain ⟨l, hl⟩ := web_head HW.out
          rw [hl]; exact List.mem_cons_self
        have HBF : Hid (Bfs nx (bus, id) P [] [(bus, id)]) := Hid.mk ⟨List.nodup_nil, (fun p hp => by cases hp), (fun p hp => by rw [List.mem_singleton] at hp; subst hp; exact hsP), .inr (by simp), (fun p hp => by cases hp)⟩
        clear hbm hbq hss hnx hsP
        go_wp2_with fail
        generalize (w5.alloc (.map #[] 0)).alloc (.cells #[.int .i64 0, .int .i64 bus, .int .i64 id, .bool lo, .bool fa, .bool re, .int .i64 sz, .slice fa0 len cap] 49) = W6 at *
        have hn20 : n ≤ 20 := (chk_newS HCK.out HLN.out).1
        have HN20 := Hid.mk hn20
        clear hn20 q0 q1 q2 q3 q4 q5
        go_loopg [13] (21 * P.length + 1) (fun gk vq wr => ∃ (vW : Value) (S : List Pl) (Wk : List LnR) (D : DVp) (g : Nat), vW = vq ∧ (P.length - S.length) * 21 + Wk.length ≤ gk ∧ gk ≤ 21001 ∧ Hid (QuAt wr (w5.heap.size + 1) g vW Wk dt) ∧ Hid (Bfs nx (bus, id) P S (Wk.map plOf)) ∧ Hid (∀ x ∈ Wk, x.k = plK lo fa re sz len (plOf x)) ∧ Hid (SpMap wr w5.heap.size S.length D) ∧ Hid (Seen D S) ∧ Hid (w5.heap.size + 1 ≤ wr.heap.size) ∧ Hid (Below w5.heap.size w5 wr))
        case atStart => exact ⟨_, [], [⟨0, bus, id, lo, fa, re, sz, fa0, len, cap⟩], .map [], w5.heap.size + 1, rfl, by simp; omega, by have := HPL.out; omega, HQ6, HBF, Hid.mk (fun x hx => by rw [List.mem_singleton] at hx; subst hx; rfl), HM6, Hid.mk Seen.nil, HS6, HB6⟩
        case round =>
          clear HQ6 HBF HM6 HS6 HB6
          obtain ⟨vW, S, Wk, D, g, rfl, hgk, hgm, HQ, HBF, HKE, HM, HSE, HSZ, HB⟩ := hrel
          have HGK := Hid.mk hgk
          have HGM := Hid.mk hgm
          clear hgk hgm
          cases Wk with
          | cons x l =>
            obtain ⟨off, cq, hv, hon, hq'⟩ := HQ.out.head
            subst hv
            obtain ⟨SN, hSN⟩ : ∃ SN, SN = S.length := ⟨_, rfl⟩
            have HQL : Hid (l.length ≤ 21000) := Hid.mk (by have := HGK.out; have := HGM.out; simp only [List.length_cons] at *; omega)
            have hxk := HKE.out x (by simp)
            have hxP : plOf x ∈ P := HBF.out.subW _ (by simp)
            have hxb := HQ.out.bytes x (by simp)
            obtain ⟨xt, xb, xi, xl, xf, xr, xz, xa, xn, xc⟩ := x
            unfold LnR.k plK plOf at hxk
            simp only [Prod.mk.injEq, true_and] at hxk
            obtain ⟨e0, e1, e2, e3, e4, e5⟩ := hxk
            subst e0
            subst e1
            subst e2
            subst e3
            subst e4
            subst e5
            have hxf := HFE.out _ hxP
            have hxo := HW.out.ok _ hxP
            unfold plOf at hxf hxo hxP
            simp only at hxf hxo hxP
            obtain ⟨xm, rfl⟩ : ∃ xm : Nat, xi = (xm : Int) := ⟨xi.toNat, by have := hxo.2.1; simp only at this; omega⟩
            have hxbb : busB xb = true := by have := hxo.1; unfold busB; simpa using this
            obtain ⟨c0, c1', c2', c3, c4, c5, c6, c7⟩ := hon
            simp only at c0 c1' c2' c3 c4 c5 c6 c7 hxb
            have hbx := awB wr (.cells #[.int .i64 0, .int .i64 xb, .int .i64 (xm : Int), .bool xl, .bool xf, .bool xr, .int .i64 xz, .slice xa xn xc] 49)
            have HX1 := Hid.mk (LnAt.new wr ⟨0, xb, (xm : Int), xl, xf, xr, xz, xa, xn, xc⟩)
            have HM1 := Hid.mk (HM.out.kept hbx)
            have HB1 := Hid.mk (bl2 HB.out hbx)
            have HY1 := Hid.mk (isBytes_below hxb hbx)
            have HSZ1 : Hid (w5.heap.size + 1 ≤ (wr.alloc (.cells #[.int .i64 0, .int .i64 xb, .int .i64 (xm : Int), .bool xl, .bool xf, .bool xr, .int .i64 xz, .slice xa xn xc] 49)).heap.size) := Hid.mk (Nat.le_trans HSZ.out hbx.size)
            have HSZW : Hid (w5.heap.size + 1 ≤ wr.heap.size) := HSZ
            have HK := Hid.mk (kyS_some hxo)
            unfold plV at HK
            simp only at HK
            unfold lnCl at HX1
            rw [← hSN] at HM1
            have HSN := Hid.mk hSN
            obtain ⟨xc0, xc1, xc2, xc3, xc4, xc5, xc6, xc7⟩ := HX1.out
            simp only at xc0 xc1 xc2 xc3 xc4 xc5 xc6 xc7
            rcases hq' with ⟨hcq, hl0, hq'⟩ | ⟨hcq, hq'⟩
            · subst hcq
              subst hl0
              have HQ1 := Hid.mk (hq'.kept hbx)
              by_cases hin : (xb, (xm : Int)) ∈ S
              · have HU : Hid (D.atKey (kyS (xb, (xm : Int))) (.held (.bool false)) = .held (.bool true)) := Hid.mk (by rw [HSE.out.at' _ hxo, decide_eq_true hin])
                have HBF1 := Hid.mk (HBF.out.skip hin)
                have HKE1 : Hid (∀ y ∈ [], y.k = plK xl xf xr xz xn (plOf y)) := Hid.mk (fun y hy => HKE.out y (List.mem_cons_of_mem _ hy))
                clear hin hxo hxf hxbb hxP hxb hbx hSN hq' HQ HM HB HSZ HBF HKE
                go_wp2_with (at_lookup; refine wpList_lookup_sp _ rfl _ _ rfl w5.heap.size SN D rfl HM1.out _ _ rfl HK.out _ HU.out ?_)
                go_roundg (gk - 1)
                case measure => have := HGK.out; simp only [List.length_cons] at this; omega
                case rel => exact ⟨_, S, [], D, g, rfl, by have := HGK.out; simp only [List.length_cons] at this; omega, by have := HGM.out; omega, HQ1, HBF1, HKE1, by rw [← HSN.out]; exact HM1, HSE, HSZ1, HB1⟩
              · have HST := Hid.mk (fun (W : World) (h : Below w5.heap.size w5 W) (hY : IsBytes W xa xn xc dt) => step_ok a2 n c2 b2 n d2 rs (neg1 n) 0 xb xm xl xf xr xz xa xn xc dt W (HR5.out.kept h) (HN5.out.kept h) (HL5.out.kept h) (HS5.out.kept h) (Nat.le_trans hY.2.1 hY.2.2.1) hY (stE_go HLN.out HCK.out hxf hxbb) (by have := (frEn_idW hxf).2.1; omega))
                have HSX : Hid (sntL rs (neg1 n) 0 xb xm xl xf xr xz xn n = nx (xb, (xm : Int))) := Hid.mk (by rw [snt_nxt HLN.out HEV.out, HNX.out])
                have HBF0 := Hid.mk (HBF.out.take hin (fun q hq => web_shut HW.out (by have := HPL.out; omega) hxP hq))
                have hroom := HBF.out.room hin
                have HRM := Hid.mk hroom
                have HU : Hid (D.atKey (kyS (xb, (xm : Int))) (.held (.bool false)) = .held (.bool false)) := Hid.mk (by rw [HSE.out.at' _ hxo, decide_eq_false hin])
                have HSEA := Hid.mk (HSE.out.add HM1.out (fun p hp => HW.out.ok p (HBF.out.subS p hp)) hxo hin)
                have HKE1 : Hid (∀ y ∈ [], y.k = plK xl xf xr xz xn (plOf y)) := Hid.mk (fun y hy => HKE.out y (List.mem_cons_of_mem _ hy))
                have HBMX : Hid (w5.heap.size < w5.heap.size + 1) := Hid.mk (Nat.lt_succ_self _)
                have HX1b := Hid.mk (show (wr.alloc (.cells #[.int .i64 0, .int .i64 xb, .int .i64 (xm : Int), .bool xl, .bool xf, .bool xr, .int .i64 xz, .slice xa xn xc] 49)).heap[wr.heap.size]? = some (.cells #[.int .i64 0, .int .i64 xb, .int .i64 (xm : Int), .bool xl, .bool xf, .bool xr, .int .i64 xz, .slice xa xn xc] 49 (0, 0)) from heap_alloc_new wr _)
                have hsn63 : SN ≤ 1000 := by rw [HSN.out]; have := HPL.out; omega
                unfold gaV frameV at HST
                obtain ⟨kl, hkl⟩ : ∃ kl, kl = kyS (xb, (xm : Int)) := ⟨_, rfl⟩
                rw [← hkl] at HK HU HSEA
                clear hkl
                clear hin hxo hxf hxbb hxP hxb hbx hSN hq' HQ HM HB HSZ HBF HKE HSE hroom
                go_wp2_with (first
                  | (at_lookup; refine wpList_lookup_sp _ rfl _ _ rfl w5.heap.size SN D rfl HM1.out _ _ rfl HK.out _ HU.out ?_)
                  | (at_mapUpdate; refine wpList_mapUpdate_own _ rfl _ _ _ 64 rfl 65 4 sp_law Tryd.underlying64 RVp w5.heap.size SN D rfl HM1.out (by unfold maxLen; omega) _ _ kl rfl rfl HK.out _ [] rfl ?_
                     intro w2' hown2 hgrow2
                     have HX2 := Hid.mk ((hgrow2.block _ (by simp) (fun e => by have := Option.some.inj e; have := HSZW.out; omega)).trans HX1b.out)
                     have HQ2 := Hid.mk (HQ1.out.map HM1.out HBMX.out hgrow2)
                     have HB2 := Hid.mk (Below.grown HB1.out hgrow2 HB1.out.size (fun q hq => by cases hq; exact Nat.le_refl _))
                     have HS2 := Hid.mk (Nat.le_trans HSZ1.out hgrow2.size)
                     have HM2 := Hid.mk hown2
                     have HY2 := Hid.mk (bytes_grown HY1.out hgrow2 (fun h0 y hy e => by obtain ⟨es, ck, hmb, -⟩ := HM1.out; exact bytes_block HY1.out h0 hy hmb (Option.some.inj e).symm))
                     have j0 := cell_of_row _ _ 0 _ _ _ HX2.out
                     have j1 := cell_of_row _ _ 1 _ _ _ HX2.out
                     have j2 := cell_of_row _ _ 2 _ _ _ HX2.out
                     have j3 := cell_of_row _ _ 3 _ _ _ HX2.out
                     have j4 := cell_of_row _ _ 4 _ _ _ HX2.out
                     have j5 := cell_of_row _ _ 5 _ _ _ HX2.out
                     have j6 := cell_of_row _ _ 6 _ _ _ HX2.out
                     have j7 := cell_of_row _ _ 7 _ _ _ HX2.out
                     obtain ⟨g0, g1⟩ := (HG5.out.kept HB2.out).cells
                     clear hown2 hgrow2))
                refine (HST.out _ HB2.out HY2.out).mono ?_
                rintro e w3 ⟨a3, c3, b3, d3, l3, lc3, M, rfl, -, -, hO3, hM3, hb3⟩
                rw [HSX.out] at hM3
                have hg3 := awB w3 (.cells #[.slice a3 n c3, .slice b3 n d3] 25)
                have HB4 := Hid.mk (bl2 (bl2 HB2.out hb3) hg3)
                have HQ4 := Hid.mk ((HQ2.out.kept hb3).kept hg3)
                have HM4 := Hid.mk ((SpMap.kept HM2.out hb3).kept hg3)
                have HO4 := Hid.mk (hO3.kept hg3)
                have HS4 := Hid.mk (Nat.le_trans HS2.out (Nat.le_trans hb3.size hg3.size))
                have HLT := Hid.mk HQ2.out.lt
                have hml : M.length ≤ 20 := by
                  have h1 := congrArg List.length hM3
                  rw [List.length_map, List.length_map, HNX.out] at h1
                  have h2 := nxt_len rs xl xf xr xz xn (xb, (xm : Int))
                  have h3 := HLN.out
                  have h4 := HN20.out
                  omega
                have HPO := Hid.mk (plOf_map hM3)
                have HKM := Hid.mk (keys_of hM3)
                have HML := Hid.mk hml
                clear hO3 hM3 hb3 hg3 hml j0 j1 j2 j3 j4 j5 j6 j7 g0 g1 HST
                go_wp2_with (
                  at_builtin
                  refine wpList_append_qu _ rfl (.tmp 96) (.tmp 97) rfl (w5.heap.size + 1) g w2'.heap.size _ [] M dt l3 lc3 M.length rfl rfl rfl HQ4.out HO4.out HLT.out (by have := HML.out; have := HQL.out; omega) (by have := HS4.out; omega) ?_
                  intro v9 w9 g9 hq9 hg9
                  have HQ9 := Hid.mk hq9
                  have HM9 := Hid.mk (HM4.out.grown hg9 (fun e => by have := Option.some.inj e; have := HQ4.out.hg; omega))
                  have HB9 := Hid.mk (Below.grown HB4.out hg9 HB4.out.size (fun q hq => by cases hq; have := HQ4.out.hg; omega))
                  have HS9 := Hid.mk (Nat.le_trans HS4.out hg9.size)
                  clear hq9 hg9)
                have HBF9 : Hid (Bfs nx (bus, id) P (S ++ [(xb, (xm : Int))]) (([] ++ M).map plOf)) := Hid.mk (by rw [List.map_append, HPO.out]; exact HBF0.out)
                have HKE9 : Hid (∀ y ∈ [] ++ M, y.k = plK xl xf xr xz xn (plOf y)) := Hid.mk (fun y hy => by
                  rcases List.mem_append.1 hy with hy | hy
                  · exact HKE1.out y hy
                  · exact HKM.out y hy)
                have HMS : Hid (SpMap w9 w5.heap.size (S ++ [(xb, (xm : Int))]).length (D.put kl (.held (.bool true)))) := Hid.mk (by rw [List.length_append, ← HSN.out]; exact HM9.out)
                have hlen9 : (P.length - (S ++ [(xb, (xm : Int))]).length) * 21 + ([] ++ M).length ≤ gk - 1 := by
                  rw [List.length_append, List.length_append]
                  have h1 := HGK.out
                  have h2 := HRM.out
                  have h3 := HML.out
                  simp only [List.length_cons, List.length_nil] at *
                  omega
                have HL9 := Hid.mk hlen9
                clear hlen9
                go_roundg (gk - 1)
                case measure => have := HGK.out; simp only [List.length_cons] at this; omega
                case rel => exact ⟨_, _, _, _, _, rfl, HL9.out, by have := HGM.out; omega, HQ9, HBF9, HKE9, HMS, HSEA, HS9, HB9⟩
            · have HQ1 := Hid.mk (hq'.kept hbx)
              by_cases hin : (xb, (xm : Int)) ∈ S
              · have HU : Hid (D.atKey (kyS (xb, (xm : Int))) (.held (.bool false)) = .held (.bool true)) := Hid.mk (by rw [HSE.out.at' _ hxo, decide_eq_true hin])
                have HBF1 := Hid.mk (HBF.out.skip hin)
                have HKE1 : Hid (∀ y ∈ l, y.k = plK xl xf xr xz xn (plOf y)) := Hid.mk (fun y hy => HKE.out y (List.mem_cons_of_mem _ hy))
                clear hin hxo hxf hxbb hxP hxb hbx hSN hq' HQ HM HB HSZ HBF HKE
                go_wp2_with (at_lookup; refine wpList_lookup_sp _ rfl _ _ rfl w5.heap.size SN D rfl HM1.out _ _ rfl HK.out _ HU.out ?_)
                go_roundg (gk - 1)
                case measure => have := HGK.out; simp only [List.length_cons] at this; omega
                case rel => exact ⟨_, S, l, D, g, rfl, by have := HGK.out; simp only [List.length_cons] at this; omega, by have := HGM.out; omega, HQ1, HBF1, HKE1, by rw [← HSN.out]; exact HM1, HSE, HSZ1, HB1⟩
              · have HST := Hid.mk (fun (W : World) (h : Below w5.heap.size w5 W) (hY : IsBytes W xa xn xc dt) => step_ok a2 n c2 b2 n d2 rs (neg1 n) 0 xb xm xl xf xr xz xa xn xc dt W (HR5.out.kept h) (HN5.out.kept h) (HL5.out.kept h) (HS5.out.kept h) (Nat.le_trans hY.2.1 hY.2.2.1) hY (stE_go HLN.out HCK.out hxf hxbb) (by have := (frEn_idW hxf).2.1; omega))
                have HSX : Hid (sntL rs (neg1 n) 0 xb xm xl xf xr xz xn n = nx (xb, (xm : Int))) := Hid.mk (by rw [snt_nxt HLN.out HEV.out, HNX.out])
                have HBF0 := Hid.mk (HBF.out.take hin (fun q hq => web_shut HW.out (by have := HPL.out; omega) hxP hq))
                have hroom := HBF.out.room hin
                have HRM := Hid.mk hroom
                have HU : Hid (D.atKey (kyS (xb, (xm : Int))) (.held (.bool false)) = .held (.bool false)) := Hid.mk (by rw [HSE.out.at' _ hxo, decide_eq_false hin])
                have HSEA := Hid.mk (HSE.out.add HM1.out (fun p hp => HW.out.ok p (HBF.out.subS p hp)) hxo hin)
                have HKE1 : Hid (∀ y ∈ l, y.k = plK xl xf xr xz xn (plOf y)) := Hid.mk (fun y hy => HKE.out y (List.mem_cons_of_mem _ hy))
                have HBMX : Hid (w5.heap.size < w5.heap.size + 1) := Hid.mk (Nat.lt_succ_self _)
                have HX1b := Hid.mk (show (wr.alloc (.cells #[.int .i64 0, .int .i64 xb, .int .i64 (xm : Int), .bool xl, .bool xf, .bool xr, .int .i64 xz, .slice xa xn xc] 49)).heap[wr.heap.size]? = some (.cells #[.int .i64 0, .int .i64 xb, .int .i64 (xm : Int), .bool xl, .bool xf, .bool xr, .int .i64 xz, .slice xa xn xc] 49 (0, 0)) from heap_alloc_new wr _)
                have hsn63 : SN ≤ 1000 := by rw [HSN.out]; have := HPL.out; omega
                unfold gaV frameV at HST
                obtain ⟨kl, hkl⟩ : ∃ kl, kl = kyS (xb, (xm : Int)) := ⟨_, rfl⟩
                rw [← hkl] at HK HU HSEA
                clear hkl
                clear hin hxo hxf hxbb hxP hxb hbx hSN hq' HQ HM HB HSZ HBF HKE HSE hroom
                go_wp2_with (first
                  | (at_lookup; refine wpList_lookup_sp _ rfl _ _ rfl w5.heap.size SN D rfl HM1.out _ _ rfl HK.out _ HU.out ?_)
                  | (at_mapUpdate; refine wpList_mapUpdate_own _ rfl _ _ _ 64 rfl 65 4 sp_law Tryd.underlying64 RVp w5.heap.size SN D rfl HM1.out (by unfold maxLen; omega) _ _ kl rfl rfl HK.out _ [] rfl ?_
                     intro w2' hown2 hgrow2
                     have HX2 := Hid.mk ((hgrow2.block _ (by simp) (fun e => by have := Option.some.inj e; have := HSZW.out; omega)).trans HX1b.out)
                     have HQ2 := Hid.mk (HQ1.out.map HM1.out HBMX.out hgrow2)
                     have HB2 := Hid.mk (Below.grown HB1.out hgrow2 HB1.out.size (fun q hq => by cases hq; exact Nat.le_refl _))
                     have HS2 := Hid.mk (Nat.le_trans HSZ1.out hgrow2.size)
                     have HM2 := Hid.mk hown2
                     have HY2 := Hid.mk (bytes_grown HY1.out hgrow2 (fun h0 y hy e => by obtain ⟨es, ck, hmb, -⟩ := HM1.out; exact bytes_block HY1.out h0 hy hmb (Option.some.inj e).symm))
                     have j0 := cell_of_row _ _ 0 _ _ _ HX2.out
                     have j1 := cell_of_row _ _ 1 _ _ _ HX2.out
                     have j2 := cell_of_row _ _ 2 _ _ _ HX2.out
                     have j3 := cell_of_row _ _ 3 _ _ _ HX2.out
                     have j4 := cell_of_row _ _ 4 _ _ _ HX2.out
                     have j5 := cell_of_row _ _ 5 _ _ _ HX2.out
                     have j6 := cell_of_row _ _ 6 _ _ _ HX2.out
                     have j7 := cell_of_row _ _ 7 _ _ _ HX2.out
                     obtain ⟨g0, g1⟩ := (HG5.out.kept HB2.out).cells
                     clear hown2 hgrow2))
                refine (HST.out _ HB2.out HY2.out).mono ?_
                rintro e w3 ⟨a3, c3, b3, d3, l3, lc3, M, rfl, -, -, hO3, hM3, hb3⟩
                rw [HSX.out] at hM3
                have hg3 := awB w3 (.cells #[.slice a3 n c3, .slice b3 n d3] 25)
                have HB4 := Hid.mk (bl2 (bl2 HB2.out hb3) hg3)
                have HQ4 := Hid.mk ((HQ2.out.kept hb3).kept hg3)
                have HM4 := Hid.mk ((SpMap.kept HM2.out hb3).kept hg3)
                have HO4 := Hid.mk (hO3.kept hg3)
                have HS4 := Hid.mk (Nat.le_trans HS2.out (Nat.le_trans hb3.size hg3.size))
                have HLT := Hid.mk HQ2.out.lt
                have hml : M.length ≤ 20 := by
                  have h1 := congrArg List.length hM3
                  rw [List.length_map, List.length_map, HNX.out] at h1
                  have h2 := nxt_len rs xl xf xr xz xn (xb, (xm : Int))
                  have h3 := HLN.out
                  have h4 := HN20.out
                  omega
                have HPO := Hid.mk (plOf_map hM3)
                have HKM := Hid.mk (keys_of hM3)
                have HML := Hid.mk hml
                clear hO3 hM3 hb3 hg3 hml j0 j1 j2 j3 j4 j5 j6 j7 g0 g1 HST
                go_wp2_with (
                  at_builtin
                  refine wpList_append_qu _ rfl (.tmp 96) (.tmp 97) rfl (w5.heap.size + 1) g w2'.heap.size _ l M dt l3 lc3 M.length rfl rfl rfl HQ4.out HO4.out HLT.out (by have := HML.out; have := HQL.out; omega) (by have := HS4.out; omega) ?_
                  intro v9 w9 g9 hq9 hg9
                  have HQ9 := Hid.mk hq9
                  have HM9 := Hid.mk (HM4.out.grown hg9 (fun e => by have := Option.some.inj e; have := HQ4.out.hg; omega))
                  have HB9 := Hid.mk (Below.grown HB4.out hg9 HB4.out.size (fun q hq => by cases hq; have := HQ4.out.hg; omega))
                  have HS9 := Hid.mk (Nat.le_trans HS4.out hg9.size)
                  clear hq9 hg9)
                have HBF9 : Hid (Bfs nx (bus, id) P (S ++ [(xb, (xm : Int))]) ((l ++ M).map plOf)) := Hid.mk (by rw [List.map_append, HPO.out]; exact HBF0.out)
                have HKE9 : Hid (∀ y ∈ l ++ M, y.k = plK xl xf xr xz xn (plOf y)) := Hid.mk (fun y hy => by
                  rcases List.mem_append.1 hy with hy | hy
                  · exact HKE1.out y hy
                  · exact HKM.out y hy)
                have HMS : Hid (SpMap w9 w5.heap.size (S ++ [(xb, (xm : Int))]).length (D.put kl (.held (.bool true)))) := Hid.mk (by rw [List.length_append, ← HSN.out]; exact HM9.out)
                have hlen9 : (P.length - (S ++ [(xb, (xm : Int))]).length) * 21 + (l ++ M).length ≤ gk - 1 := by
                  rw [List.length_append, List.length_append]
                  have h1 := HGK.out
                  have h2 := HRM.out
                  have h3 := HML.out
                  simp only [List.length_cons, List.length_nil] at *
                  omega
                have HL9 := Hid.mk hlen9
                clear hlen9
                go_roundg (gk - 1)
                case measure => have := HGK.out; simp only [List.length_cons] at this; omega
                case rel => exact ⟨_, _, _, _, _, rfl, HL9.out, by have := HGM.out; omega, HQ9, HBF9, HKE9, HMS, HSEA, HS9, HB9⟩
          | nil =>
            obtain ⟨off, cq, cur, hv, -⟩ := HQ.out.ex
            simp only [List.length_nil] at hv
            subst hv
            have hfin := Bfs.fin (nx := nx) (s := (bus, id)) (P := P) (S := S) (by have := HBF.out; simpa using this) HW.out
            have HALL := Hid.mk hfin.1
            have hpos : 0 < P.length := by
              obtain ⟨lz, hlz⟩ := web_head HW.out
              rw [hlz]; simp
            obtain ⟨SL, hSL⟩ : ∃ SL, SL = S.length := ⟨_, rfl⟩
            have hse : SL = n1 + 1 := by rw [hSL, hfin.2, HN1.out]; omega
            have hsl63 : SL ≤ 1000 := by rw [hSL, hfin.2]; exact HPL.out
            have hn163 : (n1 : Int) ≤ 1000 := by omega
            have HSLE := Hid.mk hSL
            have HSEQ := Hid.mk hse
            rw [← hSL] at HM
            clear hfin hpos hSL hse HBF HKE HQ
            rename World => wc
            go_wp2_with fail
            go_loopw [101] (fun i wi => ∃ k : Nat, k ≤ n1 ∧ i = .int .i64 k ∧ Hid (Below wc.heap.size wc wi)) (fun i _ => n1 - (intOf i).toNat)
            case atStart => exact ⟨0, Nat.zero_le _, rfl, Hid.mk (Below.refl _ _)⟩
            case round =>
              obtain ⟨k, hk, rfl, HBi⟩ := hrel
              have HBw := Hid.mk (bl2 HB.out HBi.out)
              by_cases hlt : k < n1
              · have hlt' : (k : Int) < (n1 : Int) := by omega
                have hP := HP5.out.kept HBw.out
                obtain ⟨x1, rfl⟩ := hP.some hlt
                obtain ⟨c0, c1', c2', c3, c4, c5, c6, c7⟩ := hP.cell x1 rfl k hlt
                obtain ⟨y, hy⟩ : ∃ y, y = P1.getD k noLn := ⟨_, rfl⟩
                have hym : y ∈ P1 := by rw [hy, getL (by rw [HP5.out.len]; exact hlt)]; exact List.getElem_mem _
                rw [← hy] at c0 c1' c2' c3 c4 c5 c6 c7
                have hyP : plOf y ∈ P := by
                  have h1 : y.k ∈ (P.drop 1).map (plK lo fa re sz len) := HPM.out.mem_iff.1 (List.mem_map_of_mem hym)
                  obtain ⟨p, hp, hpk⟩ := List.mem_map.1 h1
                  have e := congrArg (fun t : Int × Int × Int × Bool × Bool × Bool × Int × Nat => ((t.2.1, t.2.2.1) : Pl)) hpk
                  have e2 : p = plOf y := e
                  rw [← e2]
                  exact List.mem_of_mem_drop hp
                have hyo := HW.out.ok _ hyP
                obtain ⟨yt, yb, yi, yl, yf, yr, yz, ya, yn, yc⟩ := y
                unfold plOf at hyP hyo
                simp only at c0 c1' c2' c3 c4 c5 c6 c7 hyP hyo
                have hbx := awB wr (.cells #[.int .i64 yt, .int .i64 yb, .int .i64 yi, .bool yl, .bool yf, .bool yr, .int .i64 yz, .slice ya yn yc] 49)
                have HB1 := Hid.mk (bl2 HBi.out hbx)
                have HM1 := Hid.mk ((SpMap.kept HM.out HBi.out).kept hbx)
                have HK := Hid.mk (kyS_some hyo)
                unfold plV at HK
                simp only at HK
                have HU : Hid (D.atKey (kyS (yb, yi)) (.held (.bool false)) = .held (.bool true)) := Hid.mk (by rw [HSE.out.at' _ hyo, decide_eq_true (HALL.out _ hyP)])
                clear hy hym hyP hyo hbx hP
                go_wp2_with (at_lookup; refine wpList_lookup_sp _ rfl _ _ rfl w5.heap.size SL D rfl HM1.out _ _ rfl HK.out _ HU.out ?_)
                go_roundw
                case rel => exact ⟨k + 1, by omega, by go_num, HB1⟩
                case measure => simp [intOf]; omega
              · obtain rfl : n1 = k := by omega
                have hln := sp_len (SpMap.kept HM.out HBi.out) HSE.out 3
                rw [← HSLE.out] at hln
                go_wp2_with fail
                refine bodyPost_ret (results_tmp rfl _ _ _) rfl ?_
                have hbeq : ((SL : Int) == (n1 : Int) + 1) = true := by rw [beq_iff_eq]; have := HSEQ.out; omega
                refine ⟨?_, bl2 HB5.out HBw.out⟩
                show Ending.returned (.bool ((SL : Int) == (n1 : Int) + 1)) = _
                rw [hbeq]
      · have hne : (E1 != 0) = true := by simpa using hE
        clear hE HO1
        go_wp2_with fail
        refine HNW.out.mono ?_
        rintro e w2 ⟨hb2, ⟨-, rfl⟩ | ⟨-, a2, c2, b2, d2, rfl, -, -⟩⟩
        · have hg2 := awB w2 (.cells #[.slice none 0 0, .slice none 0 0] 25)
          have HB2 := Hid.mk (bl2 (bl2 HB1.out hb2) hg2)
          have HL2 := Hid.mk ((HL1.out.kept hb2).kept hg2)
          have HS2 := Hid.mk ((HS1.out.kept hb2).kept hg2)
          obtain ⟨CE, hCE⟩ : ∃ CE, CE = chkG rs (neg1 n) := ⟨_, rfl⟩
          rw [← hCE]
          clear hb2 hg2 HB1 HL1 HS1 HNW hCE
          go_wp2_with fail
          refine (HDL.out _ HL2.out HS2.out).mono ?_
          rintro e w3 ⟨rfl, hb3⟩
          have HB3 := Hid.mk (bl2 HB2.out hb3)
          have HL3 := Hid.mk (HL2.out.kept hb3)
          have HS3 := Hid.mk (HS2.out.kept hb3)
          clear hb3 HB2 HL2 HS2
          go_wp2_with fail
          refine (HDL.out _ HL3.out HS3.out).mono ?_
          rintro e w4 ⟨rfl, hb4⟩
          have HBe := Hid.mk (bl2 HB3.out hb4)
          clear hb4
          go_wp2_with fail
          refine bodyPost_ret (results_tmp rfl _ _ _) rfl ?_
          exact ⟨rfl, HBe.out⟩
        · have hg2 := awB w2 (.cells #[.slice a2 n c2, .slice b2 n d2] 25)
          have HB2 := Hid.mk (bl2 (bl2 HB1.out hb2) hg2)
          have HL2 := Hid.mk ((HL1.out.kept hb2).kept hg2)
          have HS2 := Hid.mk ((HS1.out.kept hb2).kept hg2)
          clear hb2 hg2 HB1 HL1 HS1 HNW
          go_wp2_with fail
          refine (HDL.out _ HL2.out HS2.out).mono ?_
          rintro e w3 ⟨rfl, hb3⟩
          have HB3 := Hid.mk (bl2 HB2.out hb3)
          have HL3 := Hid.mk (HL2.out.kept hb3)
          have HS3 := Hid.mk (HS2.out.kept hb3)
          clear hb3 HB2 HL2 HS2
          go_wp2_with fail
          refine (HDL.out _ HL3.out HS3.out).mono ?_
          rintro e w4 ⟨rfl, hb4⟩
          have HBe := Hid.mk (bl2 HB3.out hb4)
          clear hb4
          go_wp2_with fail
          refine bodyPost_ret (results_tmp rfl _ _ _) rfl ?_
          exact ⟨rfl, HBe.out⟩
end Bw
end Go.Proofs.YtapjiopnjfldhaaDoor
