/- The law RouteStep: what Step and New answer, in one form; the closed fact as a premise. -/
import Derived.Test.YtapjiopnjfldhaaDoorRtGate
import Derived.Test.YtapjiopnjfldhaaDoorRtStep
import Derived.Test.YtapjiopnjfldhaaDoorRtLaw1
namespace Go.Proofs.YtapjiopnjfldhaaDoor
open Go.ChangeShapes Go.WideShapes Go.ChangeAt Go.RowKit
namespace Bw
set_option linter.unusedVariables false
theorem fitR_mm (r : Rt) (t mn mx : Int) (hn : mn = min r.fr r.tb) (hx : mx = max r.fr r.tb) : fitR r t = true ↔ ¬ mn < 0 ∧ ¬ 3 < mx ∧ (r.fr == r.tb) = false ∧ ¬ r.ev < 0 ∧ ¬ 1000000 < r.ev ∧ ¬ t < -1 ∧ ¬ 1000000 < t := by
  unfold fitR
  simp
  omega
set_option maxHeartbeats 4000000 in
set_option maxRecDepth 100000 in
theorem lgate_any (a : Option Addr) (n c : Nat) (b : Option Addr) (m d : Nat) (rs : List Rt) (ts : List Int) (w : World) (hR : IsRts w a n c rs) (hT : IsNums w b m d ts) (hL : LastsAt w) :
    Calls Tryd.prog 9 #[gaV a n c b m d] w fun e w' => e = .returned (.int .i64 (chkG rs ts)) ∧ Below w.heap.size w w' := by
  have hb0 := awB w (gaC a n c b m d)
  have HB0 := Hid.mk hb0
  have hn63 := mlen (Nat.le_trans hR.le hR.max)
  have hm63 := mlen (Nat.le_trans hT.le hT.max)
  have HG := Hid.mk (GaAt.new w a n c b m d)
  have HR := Hid.mk (hR.kept hb0)
  have HT := Hid.mk (hT.kept hb0)
  have HL := Hid.mk (hL.kept hb0)
  have hrl := hR.len
  have htl := hT.len
  unfold chkG
  rw [hrl, htl]
  unfold gaC at *
  unfold gaV
  clear hR hT hL hb0
  by_cases h20 : 20 < n
  · rw [if_pos h20]
    have h20' : (20 : Int) < (n : Int) := by omega
    go_enter Tryd.func9, Tryd.ntmps9
    go_wp2_with fail
    go_ret
    exact ⟨rfl, HB0.out⟩
  rw [if_neg h20]
  have h20' : ¬ ((20 : Int) < (n : Int)) := by omega
  by_cases hmn : m ≠ n
  · rw [if_pos hmn]
    have hmn' : ((m : Int) != (n : Int)) = true := by simp; omega
    go_enter Tryd.func9, Tryd.ntmps9
    go_wp2_with fail
    go_ret
    exact ⟨rfl, HB0.out⟩
  rw [if_neg hmn]
  obtain rfl : m = n := by omega
  clear hmn h20
  obtain ⟨Z, hZ⟩ : ∃ Z : Int, Z = if allR rs ts = true then 0 else 3 := ⟨_, rfl⟩
  rw [← hZ]
  have HZE := Hid.mk hZ
  clear hZ
  obtain ⟨k0, k1⟩ := HG.out.cells
  go_enter Tryd.func9, Tryd.ntmps9
  go_wp2_with fail
  generalize w.alloc (.cells #[.slice a m c, .slice b m d] 25) = W0 at *
  go_loopw [20] (fun i wr => ∃ k : Nat, k ≤ m ∧ i = .int .i64 k ∧ Hid (∀ j, j < k → okR (rs.getD j noR) (ts.getD j 0) = true) ∧ Hid (Below W0.heap.size W0 wr)) (fun i _ => m - (intOf i).toNat)
  case atStart => exact ⟨0, Nat.zero_le _, rfl, Hid.mk (fun j hj => absurd hj (Nat.not_lt_zero _)), Hid.mk (Below.refl _ _)⟩
  case round =>
    obtain ⟨k, hk, rfl, HA, HB⟩ := hrel
    clear k0 k1
    by_cases hlt : k < m
    · have hlt' : (k : Int) < (m : Int) := by omega
      obtain ⟨x, rfl⟩ := HR.out.some hlt
      obtain ⟨z, rfl⟩ := HT.out.some hlt
      obtain ⟨c0, c1, c2, c3, c4, c5, c6⟩ := (HR.out.kept HB.out).cell x rfl k hlt
      have c7 := (HT.out.kept HB.out).cell z rfl k hlt
      obtain ⟨r, hr⟩ : ∃ r, r = rs.getD k noR := ⟨_, rfl⟩
      obtain ⟨t, ht⟩ : ∃ t, t = ts.getD k 0 := ⟨_, rfl⟩
      rw [← hr] at c0 c1 c2 c3 c4 c5 c6
      rw [← ht] at c7
      have hb1 := awB wr (rtC r)
      have HB1 := Hid.mk (bl2 HB.out hb1)
      have HK := Hid.mk ((HG.out.kept HB.out).kept hb1)
      have HV := Hid.mk (RtAt.new wr r)
      have HZ := Hid.mk (cell_kept hb1 c7)
      obtain ⟨g0, g1⟩ := ((HG.out.kept HB.out).kept hb1).cells
      have z0 := cell_kept hb1 c7
      have hb2 := awB (wr.alloc (rtC r)) (.cells #[.int .i64 r.f.w, .int .i64 r.f.m, .bool r.f.lo] 43)
      have HB2 := Hid.mk (bl2 (bl2 HB.out hb1) hb2)
      have HV2 := Hid.mk ((RtAt.new wr r).kept hb2)
      have hC := checkFilters_any _ 1 1 _ _ (fils_one (wr.alloc (rtC r)) r.f)
      rw [chk_one, show (wr.alloc (rtC r)).heap.size = wr.heap.size + 1 by simp] at hC
      obtain ⟨mn, hmn⟩ : ∃ mn, mn = min r.fr r.tb := ⟨_, rfl⟩
      obtain ⟨mx, hmx⟩ : ∃ mx, mx = max r.fr r.tb := ⟨_, rfl⟩
      have hmin : ∀ ts t W, (Builtin.min_ ts t #[.int .i64 r.fr, .int .i64 r.tb]).run Tryd.prog W = .ok (.int .i64 mn) W := by
        intro ts t W
        rw [hmn]
        simp [Builtin.min_, Builtin.min2]
        split <;> omega
      have hmax : ∀ ts t W, (Builtin.max_ ts t #[.int .i64 r.fr, .int .i64 r.tb]).run Tryd.prog W = .ok (.int .i64 mx) W := by
        intro ts t W
        rw [hmx]
        simp [Builtin.max_, Builtin.max2]
        split <;> omega
      have hfit := fitR_mm r t mn mx hmn hmx
      have HQ : Hid (okR (rs.getD k noR) (ts.getD k 0) = (fitR r t && okFl r.f && addB r)) := Hid.mk (by rw [hr, ht]; rfl)
      have HNO : Hid (okR (rs.getD k noR) (ts.getD k 0) = false → allR rs ts = false) := Hid.mk (allR_no (by rw [hrl]; exact hlt))
      have hadd : addB r = decide (-536870911 ≤ r.add ∧ r.add ≤ 536870911) := rfl
      clear hr ht hb1 hb2 c7 hmn hmx
      generalize okFl r.f = OF at *
      generalize fitR r t = FT at *
      generalize addB r = AB at *
      obtain ⟨fr, tb, ⟨fw, fm, flo⟩, add, ev⟩ := r
      have HC := Hid.mk hC
      clear hC
      unfold rtC at HB1 HK HV HZ HB2 HV2 HC g0 g1 z0
      simp only at c0 c1 c2 c3 c4 c5 c6 HB1 HK HV HZ HB2 HV2 HC g0 g1 z0 hmin hmax hfit hadd
      by_cases q0 : mn < 0
      · have HN := Hid.mk (HNO.out (by
          rw [HQ.out]
          cases FT
          · rfl
          · have h := hfit.1 rfl; omega))
        clear hfit hadd HQ HNO
        go_wp2_with fail
        go_ret
        exact ⟨by rw [HZE.out, HN.out]; rfl, bl2 HB0.out HB1.out⟩
      by_cases q1 : 3 < mx
      · have HN := Hid.mk (HNO.out (by
          rw [HQ.out]
          cases FT
          · rfl
          · have h := hfit.1 rfl; omega))
        clear hfit hadd HQ HNO
        go_wp2_with fail
        go_ret
        exact ⟨by rw [HZE.out, HN.out]; rfl, bl2 HB0.out HB1.out⟩
      by_cases q2 : (fr == tb) = true
      · have HN := Hid.mk (HNO.out (by
          rw [HQ.out]
          cases FT
          · rfl
          · have h := hfit.1 rfl; exact absurd q2 (by rw [h.2.2.1]; simp)))
        clear hfit hadd HQ HNO
        go_wp2_with fail
        go_ret
        exact ⟨by rw [HZE.out, HN.out]; rfl, bl2 HB0.out HB1.out⟩
      by_cases q3 : ev < 0
      · have HN := Hid.mk (HNO.out (by
          rw [HQ.out]
          cases FT
          · rfl
          · have h := hfit.1 rfl; omega))
        clear hfit hadd HQ HNO
        go_wp2_with fail
        go_ret
        exact ⟨by rw [HZE.out, HN.out]; rfl, bl2 HB0.out HB1.out⟩
      by_cases q4 : 1000000 < ev
      · have HN := Hid.mk (HNO.out (by
          rw [HQ.out]
          cases FT
          · rfl
          · have h := hfit.1 rfl; omega))
        clear hfit hadd HQ HNO
        go_wp2_with fail
        go_ret
        exact ⟨by rw [HZE.out, HN.out]; rfl, bl2 HB0.out HB1.out⟩
      by_cases q5 : t < -1
      · have HN := Hid.mk (HNO.out (by
          rw [HQ.out]
          cases FT
          · rfl
          · have h := hfit.1 rfl; omega))
        clear hfit hadd HQ HNO
        go_wp2_with fail
        go_ret
        exact ⟨by rw [HZE.out, HN.out]; rfl, bl2 HB0.out HB1.out⟩
      by_cases q6 : 1000000 < t
      · have HN := Hid.mk (HNO.out (by
          rw [HQ.out]
          cases FT
          · rfl
          · have h := hfit.1 rfl; omega))
        clear hfit hadd HQ HNO
        go_wp2_with fail
        go_ret
        exact ⟨by rw [HZE.out, HN.out]; rfl, bl2 HB0.out HB1.out⟩
      have q2' : (fr == tb) = false := by simpa using q2
      have HFT : Hid (FT = true) := Hid.mk (hfit.2 ⟨q0, q1, q2', q3, q4, q5, q6⟩)
      clear hfit q2
      cases OF
      · have HN := Hid.mk (HNO.out (by rw [HQ.out]; simp))
        rw [if_neg (by simp)] at HC
        clear hadd HQ HNO
        go_wp2_with fail
        refine HC.out.mono ?_
        rintro e w5 ⟨rfl, hb5⟩
        have HB5 := Hid.mk (bl2 HB2.out hb5)
        clear hb5
        go_wp2_with fail
        go_ret
        exact ⟨by rw [HZE.out, HN.out]; rfl, bl2 HB0.out HB5.out⟩
      rw [if_pos rfl] at HC
      by_cases q7 : 536870911 < add
      · have HN := Hid.mk (HNO.out (by rw [HQ.out, hadd, decide_eq_false (fun h => by omega)]; simp))
        clear hadd HQ HNO
        go_wp2_with fail
        refine HC.out.mono ?_
        rintro e w5 ⟨rfl, hb5⟩
        have HB5 := Hid.mk (bl2 HB2.out hb5)
        have v5 := (HV2.out.kept hb5).c5
        clear hb5
        go_wp2_with fail
        go_ret
        exact ⟨by rw [HZE.out, HN.out]; rfl, bl2 HB0.out HB5.out⟩
      by_cases q8 : add < -536870911
      · have HN := Hid.mk (HNO.out (by rw [HQ.out, hadd, decide_eq_false (fun h => by omega)]; simp))
        clear hadd HQ HNO
        go_wp2_with fail
        refine HC.out.mono ?_
        rintro e w5 ⟨rfl, hb5⟩
        have HB5 := Hid.mk (bl2 HB2.out hb5)
        have v5 := (HV2.out.kept hb5).c5
        clear hb5
        go_wp2_with fail
        go_ret
        exact ⟨by rw [HZE.out, HN.out]; rfl, bl2 HB0.out HB5.out⟩
      have HOK : Hid (okR (rs.getD k noR) (ts.getD k 0) = true) := Hid.mk (by rw [HQ.out, HFT.out, hadd, decide_eq_true (⟨by omega, by omega⟩ : -536870911 ≤ add ∧ add ≤ 536870911)]; rfl)
      clear hadd HQ HNO HFT
      go_wp2_with fail
      refine HC.out.mono ?_
      rintro e w5 ⟨rfl, hb5⟩
      have HB5 := Hid.mk (bl2 HB2.out hb5)
      have v5 := (HV2.out.kept hb5).c5
      clear hb5
      go_wp2_with fail
      go_roundw
      case rel =>
        refine ⟨k + 1, by omega, by go_num, Hid.mk fun j hj => ?_, HB5⟩
        by_cases e : j = k
        · subst e; exact HOK.out
        · exact HA.out j (by omega)
      case measure => simp [intOf]; omega
    · obtain rfl : k = m := by omega
      have HN := Hid.mk (allR_yes (rs := rs) (ts := ts) (by rw [hrl]; exact HA.out))
      go_wp2_with fail
      go_ret
      exact ⟨by rw [HZE.out, HN.out]; rfl, bl2 HB0.out HB.out⟩
end Bw
end Go.Proofs.YtapjiopnjfldhaaDoor
namespace Go.Proofs.YtapjiopnjfldhaaDoor
open Go.ChangeShapes Go.WideShapes Go.ChangeAt Go.RowKit
namespace Bw
open Bm Cm
set_option linter.unusedVariables false
/-- the closed fact, as a premise -/
def RoutedIs : Prop := ∀ w : World, LastsAt w → SizesAt w → Calls Tryd.prog 10 #[] w fun e w' => e = .returned (.bool true) ∧ Below w.heap.size w w'
theorem frEn_idR {id : Int} {lo fa re : Bool} {sz : Int} {len : Nat} (h : frEn id lo fa re sz len = 0) : 0 ≤ id ∧ id ≤ topN lo := by
  unfold frEn at h
  split at h
  · cases h
  · rename_i h1
    have e : topI lo = (topN lo : Int) := by unfold topI topN; cases lo <;> rfl
    omega
theorem step_any (a : Option Addr) (n c : Nat) (b : Option Addr) (m d : Nat) (rs : List Rt) (ts : List Int) (time bus id : Int) (lo fa re : Bool) (sz : Int) (fa0 : Option Addr) (len cap : Nat) (dt : List UInt8) (w : World) (hR : IsRts w a n c rs) (hT : IsNums w b m d ts) (hL : LastsAt w) (hS : SizesAt w) (hD : IsBytes w fa0 len cap dt) :
    Calls Tryd.prog 7 #[gaV a n c b m d, .int .i64 time, .int .i64 bus, frameV id lo fa re sz fa0 len cap] w fun e w' =>
      (∃ a' n' c' b' m' d' l' ln lc, e = .returned (.tuple #[gaV a' n' c' b' m' d', .slice l' ln lc, .int .i64 (stE rs ts time bus id lo fa re sz len)]) ∧
        (stE rs ts time bus id lo fa re sz len ≠ 0 → n' = 0 ∧ m' = 0 ∧ ln = 0 ∧ IsRts w' a' 0 c' [] ∧ IsNums w' b' 0 d' []) ∧
        (stE rs ts time bus id lo fa re sz len = 0 → n' = n ∧ m' = n ∧ IsRts w' a' n c' rs ∧ IsNums w' b' n d' (newL rs ts time bus id.toNat lo fa re sz len n) ∧ ∃ P, IsLns w' l' ln lc P dt ∧ P.map LnR.k = (sntL rs ts time bus id.toNat lo fa re sz len n).map (lnK time lo fa re sz len))) ∧ Below w.heap.size w w' := by
  have hlen : len ≤ maxLen := Nat.le_trans hD.2.1 hD.2.2.1
  by_cases hE : stE rs ts time bus id lo fa re sz len = 0
  · have hfr : frEn id lo fa re sz len = 0 := by
      have h := hE
      unfold stE at h
      by_cases h1 : chkG rs ts ≠ 0
      · rw [if_pos h1] at h; exact absurd h h1
      · rw [if_neg h1] at h
        by_cases h2 : frEn id lo fa re sz len ≠ 0
        · rw [if_pos h2] at h; exact absurd h h2
        · exact Classical.not_not.1 h2
    obtain ⟨h0, h1⟩ := frEn_idR hfr
    obtain ⟨idn, rfl⟩ : ∃ idn : Nat, id = (idn : Int) := ⟨id.toNat, by omega⟩
    rw [Int.toNat_natCast]
    refine (step_ok a n c b m d rs ts time bus idn lo fa re sz fa0 len cap dt w hR hT hL hS hlen hD hE (by omega)).mono ?_
    rintro e w' ⟨a', c', b', d', l', lc, P, rfl, hr, hn, ho, hp, hb⟩
    refine ⟨⟨a', n, c', b', n, d', l', P.length, lc, by rw [hE], fun h => absurd hE h, fun _ => ⟨rfl, rfl, hr, hn, P, lns_of ho.row rfl ho.bytes, hp⟩⟩, hb⟩
  · refine (step_bad a n c b m d rs ts time bus id lo fa re sz fa0 len cap w hR hT hL hS hlen hE).mono ?_
    rintro e w' ⟨rfl, hb⟩
    exact ⟨⟨none, 0, 0, none, 0, 0, none, 0, 0, rfl, fun _ => ⟨rfl, rfl, rfl, rts_nil _ _ (Nat.zero_le _), nums_nil _ _ (Nat.zero_le _)⟩, fun h => absurd h hE⟩, hb⟩
theorem new_all (a : Option Addr) (n c : Nat) (rs : List Rt) (w : World) (hR : IsRts w a n c rs) (hL : LastsAt w) (hn : n ≤ 2513169434843) :
    Calls Tryd.prog 8 #[.slice a n c] w fun e w' =>
      (∃ a' n' c' b' m' d', e = .returned (.tuple #[gaV a' n' c' b' m' d', .int .i64 (chkG rs (neg1 n))]) ∧
        (chkG rs (neg1 n) ≠ 0 → n' = 0 ∧ m' = 0 ∧ IsRts w' a' 0 c' [] ∧ IsNums w' b' 0 d' []) ∧ (chkG rs (neg1 n) = 0 → n' = n ∧ m' = n ∧ IsRts w' a' n c' rs ∧ IsNums w' b' n d' (neg1 n))) ∧ Below w.heap.size w w' := by
  refine (new_any a n c rs w hR hL (by omega)).mono ?_
  rintro e w' ⟨hb, ⟨hE, rfl⟩ | ⟨hE, a', c', b', d', rfl, hr, hn'⟩⟩
  · exact ⟨⟨none, 0, 0, none, 0, 0, rfl, fun _ => ⟨rfl, rfl, rts_nil _ _ (Nat.zero_le _), nums_nil _ _ (Nat.zero_le _)⟩, fun h => absurd h hE⟩, hb⟩
  · exact ⟨⟨a', n, c', b', n, d', by rw [hE], fun h => absurd hE h, fun _ => ⟨rfl, rfl, hr, hn'⟩⟩, hb⟩
/-- the law's three variables -/
def rst3 (w : World) (a : Option Addr) (n c : Nat) (b : Option Addr) (m d : Nat) (time id : Int) (lo fa re : Bool) (sz : Int) (fa0 : Option Addr) (len cap : Nat) : World := ((w.alloc (gaC a n c b m d)).alloc (.cells #[.int .i64 time] 3)).alloc (frameC id lo fa re sz fa0 len cap)
theorem rst3_at (w : World) (a : Option Addr) (n c : Nat) (b : Option Addr) (m d : Nat) (time id : Int) (lo fa re : Bool) (sz : Int) (fa0 : Option Addr) (len cap : Nat) :
    GaAt (rst3 w a n c b m d time id lo fa re sz fa0 len cap) w.heap.size a n c b m d ∧ (rst3 w a n c b m d time id lo fa re sz fa0 len cap).cell? ⟨w.heap.size + 1, 0, none⟩ = some (.int .i64 time) ∧ Row6 (rst3 w a n c b m d time id lo fa re sz fa0 len cap) (w.heap.size + 2) id lo fa re sz fa0 len cap ∧ Below w.heap.size w (rst3 w a n c b m d time id lo fa re sz fa0 len cap) := by
  have b1 := awB w (gaC a n c b m d)
  have b2 := awB (w.alloc (gaC a n c b m d)) (.cells #[.int .i64 time] 3)
  have b3 := awB ((w.alloc (gaC a n c b m d)).alloc (.cells #[.int .i64 time] 3)) (frameC id lo fa re sz fa0 len cap)
  have h2 : ((w.alloc (gaC a n c b m d)).alloc (.cells #[.int .i64 time] 3)).cell? ⟨w.heap.size + 1, 0, none⟩ = some (.int .i64 time) := by
    have := cell_of_row _ _ 0 _ _ _ (heap_alloc_new (w.alloc (gaC a n c b m d)) (.cells #[.int .i64 time] 3))
    rw [show (w.alloc (gaC a n c b m d)).heap.size = w.heap.size + 1 by simp] at this
    exact this
  have h3 := Row6.new ((w.alloc (gaC a n c b m d)).alloc (.cells #[.int .i64 time] 3)) id lo fa re sz fa0 len cap
  rw [show ((w.alloc (gaC a n c b m d)).alloc (.cells #[.int .i64 time] 3)).heap.size = w.heap.size + 2 by simp] at h3
  exact ⟨((GaAt.new w a n c b m d).kept b2).kept b3, cell_kept b3 h2, h3, bl2 (bl2 b1 b2) b3⟩
end Bw
end Go.Proofs.YtapjiopnjfldhaaDoor
