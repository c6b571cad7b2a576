/- What route.checkStep answers. -/
import Derived.Test.YtapjiopnjfldhaaDoorA9
namespace Go.Proofs.YtapjiopnjfldhaaDoor
open Go.ChangeShapes Go.WideShapes Go.ChangeAt Go.RowKit
namespace Bw
open Bm
set_option linter.unusedVariables false
theorem gf2_at (w : World) (a : Option Addr) (n c : Nat) (b : Option Addr) (m d : Nat) (id : Int) (lo fa re : Bool) (sz : Int) (fa0 : Option Addr) (len cap : Nat) :
    GaAt ((w.alloc (gaC a n c b m d)).alloc (frameC id lo fa re sz fa0 len cap)) w.heap.size a n c b m d ∧ Row6 ((w.alloc (gaC a n c b m d)).alloc (frameC id lo fa re sz fa0 len cap)) (w.heap.size + 1) id lo fa re sz fa0 len cap ∧ Below w.heap.size w ((w.alloc (gaC a n c b m d)).alloc (frameC id lo fa re sz fa0 len cap)) := by
  have b1 := awB w (gaC a n c b m d)
  have b2 := awB (w.alloc (gaC a n c b m d)) (frameC id lo fa re sz fa0 len cap)
  have h2 := Row6.new (w.alloc (gaC a n c b m d)) id lo fa re sz fa0 len cap
  rw [show (w.alloc (gaC a n c b m d)).heap.size = w.heap.size + 1 by simp] at h2
  exact ⟨(GaAt.new w a n c b m d).kept b2, h2, bl2 b1 b2⟩
set_option maxHeartbeats 4000000 in
set_option maxRecDepth 100000 in
theorem cs_gate (a : Option Addr) (n c : Nat) (b : Option Addr) (m d : Nat) (rs : List Rt) (ts : List Int) (time bus id : Int) (lo fa re : Bool) (sz : Int) (fa0 : Option Addr) (len cap : Nat) (w : World) (hR : IsRts w a n c rs) (hT : IsNums w b m d ts) (hL : LastsAt w) (hS : SizesAt w) (hlen : len ≤ maxLen) (hE : chkG rs ts ≠ 0) :
    Calls Tryd.prog 27 #[gaV a n c b m d, .int .i64 time, .int .i64 bus, frameV id lo fa re sz fa0 len cap] w fun e w' => e = .returned (.int .i64 (chkG rs ts)) ∧ Below w.heap.size w w' := by
  obtain ⟨hG, hF, hb⟩ := gf2_at w a n c b m d id lo fa re sz fa0 len cap
  have HBus := Hid.mk isBus_any
  have HTim := Hid.mk isTime_any
  have HCG := Hid.mk (gcheck_any a n c b m d rs ts _ (hR.kept hb) (hT.kept hb) (hL.kept hb))
  have HCF := Hid.mk (fun (W : World) (h : Below w.heap.size w W) => frCheck_any id lo fa re sz fa0 len cap W (hS.kept h) hlen)
  have HB := Hid.mk hb
  have HG := Hid.mk hG
  have HF := Hid.mk hF
  have HTT := Hid.mk hT
  have hm63 := mlen (Nat.le_trans hT.le hT.max)
  obtain ⟨k0, k1⟩ := hG.cells
  have hne : (chkG rs ts != 0) = true := by simpa using hE
  generalize chkG rs ts = E at *
  clear hE
  unfold gaC frameC at HB HG HF HCG k0 k1
  unfold gaV at HCG ⊢
  unfold frameV
  unfold frameV at HCF
  clear hG hF hb hR hT hL hS hlen
  go_enter Tryd.func27, Tryd.ntmps27
  go_wp2_with fail
  refine HCG.out.mono ?_
  rintro e w1 ⟨rfl, hb1⟩
  have HB1 := Hid.mk (bl2 HB.out hb1)
  have HG1 := Hid.mk (HG.out.kept hb1)
  have HF1 := Hid.mk (HF.out.kept hb1)
  clear hb1 HB HG HF HCG k0 k1
  go_wp2_with fail
  go_ret
  exact ⟨rfl, HB1.out⟩
set_option maxHeartbeats 4000000 in
set_option maxRecDepth 100000 in
theorem cs_frame (a : Option Addr) (n c : Nat) (b : Option Addr) (m d : Nat) (rs : List Rt) (ts : List Int) (time bus id : Int) (lo fa re : Bool) (sz : Int) (fa0 : Option Addr) (len cap : Nat) (w : World) (hR : IsRts w a n c rs) (hT : IsNums w b m d ts) (hL : LastsAt w) (hS : SizesAt w) (hlen : len ≤ maxLen) (hE : chkG rs ts = 0) (hE2 : frEn id lo fa re sz len ≠ 0) :
    Calls Tryd.prog 27 #[gaV a n c b m d, .int .i64 time, .int .i64 bus, frameV id lo fa re sz fa0 len cap] w fun e w' => e = .returned (.int .i64 (frEn id lo fa re sz len)) ∧ Below w.heap.size w w' := by
  obtain ⟨hG, hF, hb⟩ := gf2_at w a n c b m d id lo fa re sz fa0 len cap
  have HBus := Hid.mk isBus_any
  have HTim := Hid.mk isTime_any
  have HCG := Hid.mk (gcheck_any a n c b m d rs ts _ (hR.kept hb) (hT.kept hb) (hL.kept hb))
  have HCF := Hid.mk (fun (W : World) (h : Below w.heap.size w W) => frCheck_any id lo fa re sz fa0 len cap W (hS.kept h) hlen)
  have HB := Hid.mk hb
  have HG := Hid.mk hG
  have HF := Hid.mk hF
  have HTT := Hid.mk hT
  have hm63 := mlen (Nat.le_trans hT.le hT.max)
  obtain ⟨k0, k1⟩ := hG.cells
  rw [hE] at HCG
  have hne : (frEn id lo fa re sz len != 0) = true := by simpa using hE2
  generalize frEn id lo fa re sz len = E at *
  clear hE hE2
  unfold gaC frameC at HB HG HF HCG k0 k1
  unfold gaV at HCG ⊢
  unfold frameV
  unfold frameV at HCF
  clear hG hF hb hR hT hL hS hlen
  go_enter Tryd.func27, Tryd.ntmps27
  go_wp2_with fail
  refine HCG.out.mono ?_
  rintro e w1 ⟨rfl, hb1⟩
  have HB1 := Hid.mk (bl2 HB.out hb1)
  have HG1 := Hid.mk (HG.out.kept hb1)
  have HF1 := Hid.mk (HF.out.kept hb1)
  clear hb1 HB HG HF HCG k0 k1
  obtain ⟨q0, q1, q2, q3, q4, q5⟩ := HF1.out.fr
  go_wp2_with fail
  refine (HCF.out _ HB1.out).mono ?_
  rintro e w2 ⟨rfl, hb2⟩
  have HB2 := Hid.mk (bl2 HB1.out hb2)
  have HG2 := Hid.mk (HG1.out.kept hb2)
  clear hb2 HB1 HG1 HF1 HCF q0 q1 q2 q3 q4 q5
  go_wp2_with fail
  go_ret
  exact ⟨rfl, HB2.out⟩
set_option maxHeartbeats 4000000 in
set_option maxRecDepth 100000 in
theorem cs_time (a : Option Addr) (n c : Nat) (b : Option Addr) (m d : Nat) (rs : List Rt) (ts : List Int) (time bus id : Int) (lo fa re : Bool) (sz : Int) (fa0 : Option Addr) (len cap : Nat) (w : World) (hR : IsRts w a n c rs) (hT : IsNums w b m d ts) (hL : LastsAt w) (hS : SizesAt w) (hlen : len ≤ maxLen) (hE : chkG rs ts = 0) (hE2 : frEn id lo fa re sz len = 0) (h3 : timB time = false) :
    Calls Tryd.prog 27 #[gaV a n c b m d, .int .i64 time, .int .i64 bus, frameV id lo fa re sz fa0 len cap] w fun e w' => e = .returned (.int .i64 3) ∧ Below w.heap.size w w' := by
  obtain ⟨hG, hF, hb⟩ := gf2_at w a n c b m d id lo fa re sz fa0 len cap
  have HBus := Hid.mk isBus_any
  have HTim := Hid.mk isTime_any
  have HCG := Hid.mk (gcheck_any a n c b m d rs ts _ (hR.kept hb) (hT.kept hb) (hL.kept hb))
  have HCF := Hid.mk (fun (W : World) (h : Below w.heap.size w W) => frCheck_any id lo fa re sz fa0 len cap W (hS.kept h) hlen)
  have HB := Hid.mk hb
  have HG := Hid.mk hG
  have HF := Hid.mk hF
  have HTT := Hid.mk hT
  have hm63 := mlen (Nat.le_trans hT.le hT.max)
  obtain ⟨k0, k1⟩ := hG.cells
  rw [hE] at HCG
  rw [hE2] at HCF
  clear hE hE2
  unfold gaC frameC at HB HG HF HCG k0 k1
  unfold gaV at HCG ⊢
  unfold frameV
  unfold frameV at HCF
  clear hG hF hb hR hT hL hS hlen
  go_enter Tryd.func27, Tryd.ntmps27
  go_wp2_with fail
  refine HCG.out.mono ?_
  rintro e w1 ⟨rfl, hb1⟩
  have HB1 := Hid.mk (bl2 HB.out hb1)
  have HG1 := Hid.mk (HG.out.kept hb1)
  have HF1 := Hid.mk (HF.out.kept hb1)
  clear hb1 HB HG HF HCG k0 k1
  obtain ⟨q0, q1, q2, q3, q4, q5⟩ := HF1.out.fr
  go_wp2_with fail
  refine (HCF.out _ HB1.out).mono ?_
  rintro e w2 ⟨rfl, hb2⟩
  have HB2 := Hid.mk (bl2 HB1.out hb2)
  have HG2 := Hid.mk (HG1.out.kept hb2)
  clear hb2 HB1 HG1 HF1 HCF q0 q1 q2 q3 q4 q5
  go_wp2_with (first | (go_at_call 54; with_reducible refine (HTim.out _ _).mono ?_; rintro e wq ⟨rfl, hwq⟩; rw [hwq]; clear hwq) | (go_at_call 45; with_reducible refine (HBus.out _ _).mono ?_; rintro e wq ⟨rfl, hwq⟩; rw [hwq]; clear hwq))
  go_ret
  exact ⟨rfl, HB2.out⟩
set_option maxHeartbeats 4000000 in
set_option maxRecDepth 100000 in
theorem cs_bus (a : Option Addr) (n c : Nat) (b : Option Addr) (m d : Nat) (rs : List Rt) (ts : List Int) (time bus id : Int) (lo fa re : Bool) (sz : Int) (fa0 : Option Addr) (len cap : Nat) (w : World) (hR : IsRts w a n c rs) (hT : IsNums w b m d ts) (hL : LastsAt w) (hS : SizesAt w) (hlen : len ≤ maxLen) (hE : chkG rs ts = 0) (hE2 : frEn id lo fa re sz len = 0) (h3 : timB time = true) (h4 : busB bus = false) :
    Calls Tryd.prog 27 #[gaV a n c b m d, .int .i64 time, .int .i64 bus, frameV id lo fa re sz fa0 len cap] w fun e w' => e = .returned (.int .i64 3) ∧ Below w.heap.size w w' := by
  obtain ⟨hG, hF, hb⟩ := gf2_at w a n c b m d id lo fa re sz fa0 len cap
  have HBus := Hid.mk isBus_any
  have HTim := Hid.mk isTime_any
  have HCG := Hid.mk (gcheck_any a n c b m d rs ts _ (hR.kept hb) (hT.kept hb) (hL.kept hb))
  have HCF := Hid.mk (fun (W : World) (h : Below w.heap.size w W) => frCheck_any id lo fa re sz fa0 len cap W (hS.kept h) hlen)
  have HB := Hid.mk hb
  have HG := Hid.mk hG
  have HF := Hid.mk hF
  have HTT := Hid.mk hT
  have hm63 := mlen (Nat.le_trans hT.le hT.max)
  obtain ⟨k0, k1⟩ := hG.cells
  rw [hE] at HCG
  rw [hE2] at HCF
  clear hE hE2
  unfold gaC frameC at HB HG HF HCG k0 k1
  unfold gaV at HCG ⊢
  unfold frameV
  unfold frameV at HCF
  clear hG hF hb hR hT hL hS hlen
  go_enter Tryd.func27, Tryd.ntmps27
  go_wp2_with fail
  refine HCG.out.mono ?_
  rintro e w1 ⟨rfl, hb1⟩
  have HB1 := Hid.mk (bl2 HB.out hb1)
  have HG1 := Hid.mk (HG.out.kept hb1)
  have HF1 := Hid.mk (HF.out.kept hb1)
  clear hb1 HB HG HF HCG k0 k1
  obtain ⟨q0, q1, q2, q3, q4, q5⟩ := HF1.out.fr
  go_wp2_with fail
  refine (HCF.out _ HB1.out).mono ?_
  rintro e w2 ⟨rfl, hb2⟩
  have HB2 := Hid.mk (bl2 HB1.out hb2)
  have HG2 := Hid.mk (HG1.out.kept hb2)
  clear hb2 HB1 HG1 HF1 HCF q0 q1 q2 q3 q4 q5
  go_wp2_with (first | (go_at_call 54; with_reducible refine (HTim.out _ _).mono ?_; rintro e wq ⟨rfl, hwq⟩; rw [hwq]; clear hwq) | (go_at_call 45; with_reducible refine (HBus.out _ _).mono ?_; rintro e wq ⟨rfl, hwq⟩; rw [hwq]; clear hwq))
  go_ret
  exact ⟨rfl, HB2.out⟩
set_option maxHeartbeats 4000000 in
set_option maxRecDepth 100000 in
theorem cs_late (a : Option Addr) (n c : Nat) (b : Option Addr) (m d : Nat) (rs : List Rt) (ts : List Int) (time bus id : Int) (lo fa re : Bool) (sz : Int) (fa0 : Option Addr) (len cap : Nat) (w : World) (hR : IsRts w a n c rs) (hT : IsNums w b m d ts) (hL : LastsAt w) (hS : SizesAt w) (hlen : len ≤ maxLen) (hE : chkG rs ts = 0) (hE2 : frEn id lo fa re sz len = 0) (h3 : timB time = true) (h4 : busB bus = true) :
    Calls Tryd.prog 27 #[gaV a n c b m d, .int .i64 time, .int .i64 bus, frameV id lo fa re sz fa0 len cap] w fun e w' => e = .returned (.int .i64 (if lateB ts time = true then 12 else 0)) ∧ Below w.heap.size w w' := by
  obtain ⟨hG, hF, hb⟩ := gf2_at w a n c b m d id lo fa re sz fa0 len cap
  have HBus := Hid.mk isBus_any
  have HTim := Hid.mk isTime_any
  have HCG := Hid.mk (gcheck_any a n c b m d rs ts _ (hR.kept hb) (hT.kept hb) (hL.kept hb))
  have HCF := Hid.mk (fun (W : World) (h : Below w.heap.size w W) => frCheck_any id lo fa re sz fa0 len cap W (hS.kept h) hlen)
  have HB := Hid.mk hb
  have HG := Hid.mk hG
  have HF := Hid.mk hF
  have HTT := Hid.mk hT
  have hm63 := mlen (Nat.le_trans hT.le hT.max)
  obtain ⟨k0, k1⟩ := hG.cells
  rw [hE] at HCG
  rw [hE2] at HCF
  clear hE hE2
  have htl := hT.len
  obtain ⟨Z, hZ⟩ : ∃ Z : Int, Z = if lateB ts time = true then 12 else 0 := ⟨_, rfl⟩
  rw [← hZ]
  have HZE := Hid.mk hZ
  clear hZ
  unfold gaC frameC at HB HG HF HCG k0 k1
  unfold gaV at HCG ⊢
  unfold frameV
  unfold frameV at HCF
  clear hG hF hb hR hT hL hS hlen
  go_enter Tryd.func27, Tryd.ntmps27
  go_wp2_with fail
  refine HCG.out.mono ?_
  rintro e w1 ⟨rfl, hb1⟩
  have HB1 := Hid.mk (bl2 HB.out hb1)
  have HG1 := Hid.mk (HG.out.kept hb1)
  have HF1 := Hid.mk (HF.out.kept hb1)
  clear hb1 HB HG HF HCG k0 k1
  obtain ⟨q0, q1, q2, q3, q4, q5⟩ := HF1.out.fr
  go_wp2_with fail
  refine (HCF.out _ HB1.out).mono ?_
  rintro e w2 ⟨rfl, hb2⟩
  have HB2 := Hid.mk (bl2 HB1.out hb2)
  have HG2 := Hid.mk (HG1.out.kept hb2)
  clear hb2 HB1 HG1 HF1 HCF q0 q1 q2 q3 q4 q5
  obtain ⟨k0, k1⟩ := HG2.out.cells
  go_wp2_with (first | (go_at_call 54; with_reducible refine (HTim.out _ _).mono ?_; rintro e wq ⟨rfl, hwq⟩; rw [hwq]; clear hwq) | (go_at_call 45; with_reducible refine (HBus.out _ _).mono ?_; rintro e wq ⟨rfl, hwq⟩; rw [hwq]; clear hwq))
  go_loopw [34] (fun i wr => ∃ k : Nat, k ≤ m ∧ i = .int .i64 k ∧ Hid (∀ j, j < k → ¬ time < ts.getD j 0) ∧ wr = w2) (fun i _ => m - (intOf i).toNat)
  case atStart => exact ⟨0, Nat.zero_le _, rfl, Hid.mk (fun j hj => absurd hj (Nat.not_lt_zero _)), rfl⟩
  case round =>
    obtain ⟨k, hk, rfl, HA, rfl⟩ := hrel
    by_cases hlt : k < m
    · have hlt' : (k : Int) < (m : Int) := by omega
      obtain ⟨z, rfl⟩ := HTT.out.some hlt
      have c7 := (HTT.out.kept HB2.out).cell z rfl k hlt
      by_cases hq : time < ts.getD k 0
      · have HN := Hid.mk (late_yes (by rw [htl]; exact hlt) hq)
        generalize ts.getD k 0 = t at *
        go_wp2_with fail
        go_ret
        exact ⟨by rw [HZE.out, HN.out]; rfl, HB2.out⟩
      · have HQ := Hid.mk hq
        obtain ⟨t, ht⟩ : ∃ t, t = ts.getD k 0 := ⟨_, rfl⟩
        rw [← ht] at c7 hq
        clear ht
        go_wp2_with fail
        go_roundw
        case rel =>
          refine ⟨k + 1, by omega, by go_num, Hid.mk fun j hj => ?_, trivial⟩
          by_cases e : j = k
          · subst e; exact HQ.out
          · exact HA.out j (by omega)
        case measure => simp [intOf]; omega
    · obtain rfl : k = m := by omega
      have HN := Hid.mk (late_no (ts := ts) (time := time) (by rw [htl]; exact HA.out))
      go_wp2_with fail
      go_ret
      exact ⟨by rw [HZE.out, HN.out]; rfl, HB2.out⟩
theorem checkStep_any (a : Option Addr) (n c : Nat) (b : Option Addr) (m d : Nat) (rs : List Rt) (ts : List Int) (time bus id : Int) (lo fa re : Bool) (sz : Int) (fa0 : Option Addr) (len cap : Nat) (w : World) (hR : IsRts w a n c rs) (hT : IsNums w b m d ts) (hL : LastsAt w) (hS : SizesAt w) (hlen : len ≤ maxLen) :
    Calls Tryd.prog 27 #[gaV a n c b m d, .int .i64 time, .int .i64 bus, frameV id lo fa re sz fa0 len cap] w fun e w' => e = .returned (.int .i64 (stE rs ts time bus id lo fa re sz len)) ∧ Below w.heap.size w w' := by
  unfold stE
  by_cases h1 : chkG rs ts ≠ 0
  · rw [if_pos h1]; exact cs_gate a n c b m d rs ts time bus id lo fa re sz fa0 len cap w hR hT hL hS hlen h1
  · rw [if_neg h1]
    have h1' : chkG rs ts = 0 := Classical.not_not.1 h1
    by_cases h2 : frEn id lo fa re sz len ≠ 0
    · rw [if_pos h2]; exact cs_frame a n c b m d rs ts time bus id lo fa re sz fa0 len cap w hR hT hL hS hlen h1' h2
    · rw [if_neg h2]
      have h2' : frEn id lo fa re sz len = 0 := Classical.not_not.1 h2
      cases h3 : timB time
      · rw [if_pos rfl]; exact cs_time a n c b m d rs ts time bus id lo fa re sz fa0 len cap w hR hT hL hS hlen h1' h2' h3
      · rw [if_neg (by simp)]
        cases h4 : busB bus
        · rw [if_pos rfl]; exact cs_bus a n c b m d rs ts time bus id lo fa re sz fa0 len cap w hR hT hL hS hlen h1' h2' h3 h4
        · rw [if_neg (by simp)]; exact cs_late a n c b m d rs ts time bus id lo fa re sz fa0 len cap w hR hT hL hS hlen h1' h2' h3 h4
end Bw
end Go.Proofs.YtapjiopnjfldhaaDoor
