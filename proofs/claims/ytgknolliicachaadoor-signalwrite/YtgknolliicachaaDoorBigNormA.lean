/- omnibusbig: Neg, norm of any sign. -/
import Derived.Test.YtgknolliicachaaDoorBigZ
import Derived.Deep.RegionWith
import Derived.Test.YtgknolliicachaaDoorBigNorm
import Derived.Test.YtgknolliicachaaDoorBigFrac
namespace Go.Proofs.YtgknolliicachaaDoor
open Go.ChangeShapes Go.WideShapes Go.ChangeAt Go.RowKit Go.Sort
namespace Ww
open Wm
open Bw (Tch bl2 cell_kept)
theorem neg_flag (r : Int) : -r ≠ 0 → (!decide (r < 0)) = decide (-r < 0) := by
  intro h
  by_cases h1 : r < 0
  · rw [decide_eq_true h1, decide_eq_false (by omega)]; rfl
  · rw [decide_eq_false h1, decide_eq_true (by omega)]; rfl
set_option maxHeartbeats 8000000 in
set_option maxRecDepth 100000 in
theorem ineg_z (gz oz : Nat) (cs : List Value) (T : TypeId) (gx ox : Nat) (r : Int) (w : World) (hx : ZAt w gx ox r) (hB : BlkAt w gz cs T) (hn : NoW cs) (hz0 : ∃ b, cs[oz]? = some (.bool b)) (hz1 : ∃ a l c, cs[oz + 1]? = some (.slice a l c)) (hr1 : -4611686018427387903 ≤ r) (hr2 : r ≤ 4611686018427387903) :
    Calls Tryd.prog 53 #[.pointer (some ⟨gz, oz, none⟩), .pointer (some ⟨gx, ox, none⟩)] w fun e w' => e = .returned (.pointer (some ⟨gz, oz, none⟩)) ∧ OutZ w w' gz oz cs T (-r) := by
  obtain ⟨va, xs, h1, h2, h3, h4, h5⟩ := hx
  have hl := len_two h4 (show valW xs < 2 ^ 62 by omega)
  have hB' : BlkAt w.drew gz cs T := hB
  have HTW := Hid.mk (twin_any va xs w.drew h3 (by omega))
  have HGV := Hid.mk (fun v' W (hb : Below w.drew.heap.size w.drew W) (hW : IsW W v' xs) => give_z gz oz cs T (!decide (r < 0)) v' xs (-r) W (hB'.kept hb) hn hz0 hz1 hW h4 (by rw [h5, Int.natAbs_neg]) (neg_flag r))
  obtain ⟨a, l, c, rfl⟩ := h3.sliceB
  have d1 : w.drew.cell? ⟨gx, ox, none⟩ = some (.bool (decide (r < 0))) := h1
  have d2 : w.drew.cell? ⟨gx, ox + 1, none⟩ = some (.slice a l c) := h2
  generalize decide (r < 0) = R at *
  clear h1 h2 h3 h4 h5 hl hB hB' hr1 hr2 hn hz0 hz1
  go_enter Tryd.func53, Tryd.ntmps53
  go_wp2_with fail
  go_region_with (first
    | (go_at_call 78; with_reducible refine HTW.out.mono ?_; rintro e w1 ⟨v', rfl, hW1, hb1⟩
       have d3 := cell_kept hb1 d1
       have HG := Hid.mk (HGV.out v' w1 hb1 hW1)
       have HB1 := Hid.mk hb1
       clear hW1 hb1)
    | (go_at_call 73; with_reducible refine HG.out.mono ?_; rintro e w2 ⟨rfl, hO⟩
       have HO := Hid.mk hO
       clear hO))
  all_goals
    go_wp2_with fail
    go_ret
    exact ⟨rfl, HO.out.pre (bl2 (drBw1 w) HB1.out)⟩
end Ww
end Go.Proofs.YtgknolliicachaaDoor
namespace Go.Proofs.YtgknolliicachaaDoor
open Go.ChangeShapes Go.WideShapes Go.ChangeAt Go.RowKit Go.Sort
namespace Ww
open Wm Sm
open Bw (Tch bl2 cell_kept)
set_option linter.unusedVariables false
theorem neg_num (g : Nat) (p q : Int) (w : World) (h : RatAt w g p q) (h1 : -4611686018427387903 ≤ p) (h2 : p ≤ 4611686018427387903) :
    Calls Tryd.prog 53 #[.pointer (some ⟨g, 0, none⟩), .pointer (some ⟨g, 0, none⟩)] w fun e w' => e = .returned (.pointer (some ⟨g, 0, none⟩)) ∧ RatAt w' g (-p) q ∧ Tch [g] w w' := by
  have hz := h.num
  obtain ⟨va, xs, vb, ys, hB, ⟨x1, x2, x3⟩, y1, y2, y3⟩ := h
  obtain ⟨la, na, ca, rfl⟩ := x1.sliceB
  obtain ⟨lb, nb, cb, rfl⟩ := y1.sliceB
  refine (ineg_z g 0 _ _ g 0 p w hz hB (RatV.noW ⟨_, _, _, _, _, _, _, _, rfl⟩) ⟨_, rfl⟩ ⟨_, _, _, rfl⟩ h1 h2).mono ?_
  rintro e w' ⟨rfl, ht, v1, zs, k1, k2, k3, k4⟩
  exact ⟨rfl, ⟨v1, zs, _, ys, k4, ⟨k1, k2, k3⟩, y1.tch hB (RatV.noW ⟨_, _, _, _, _, _, _, _, rfl⟩) ht, y2, y3⟩, ht⟩
theorem neg_den (g : Nat) (p q : Int) (w : World) (h : RatAt w g p q) (h1 : -4611686018427387903 ≤ q) (h2 : q ≤ 4611686018427387903) :
    Calls Tryd.prog 53 #[.pointer (some ⟨g, 2, none⟩), .pointer (some ⟨g, 2, none⟩)] w fun e w' => e = .returned (.pointer (some ⟨g, 2, none⟩)) ∧ RatAt w' g p (-q) ∧ Tch [g] w w' := by
  have hz := h.den
  obtain ⟨va, xs, vb, ys, hB, ⟨x1, x2, x3⟩, y1, y2, y3⟩ := h
  obtain ⟨la, na, ca, rfl⟩ := x1.sliceB
  obtain ⟨lb, nb, cb, rfl⟩ := y1.sliceB
  refine (ineg_z g 2 _ _ g 2 q w hz hB (RatV.noW ⟨_, _, _, _, _, _, _, _, rfl⟩) ⟨_, rfl⟩ ⟨_, _, _, rfl⟩ h1 h2).mono ?_
  rintro e w' ⟨rfl, ht, v1, zs, k1, k2, k3, k4⟩
  exact ⟨rfl, ⟨_, xs, v1, zs, k4, ⟨x1.tch hB (RatV.noW ⟨_, _, _, _, _, _, _, _, rfl⟩) ht, x2, x3⟩, k1, k2, k3⟩, ht⟩
set_option maxHeartbeats 16000000 in
set_option maxRecDepth 100000 in
theorem normN_0 (g : Nat) (p q : Int) (w0 : World) (h : RatAt w0 g (-p) (-q)) (hq : 0 < q) (hp1 : -4611686018427387903 ≤ p) (hp2 : p ≤ 4611686018427387903) (hq2 : q ≤ 4611686018427387903) (hp : p = 0) :
    Calls Tryd.prog 84 #[.pointer (some ⟨g, 0, none⟩)] w0 fun e w' => e = .returned (.pointer (some ⟨g, 0, none⟩)) ∧ RatAt w' g (numL p q) (denL p q) ∧ Tch [g] w0 w' := by
  subst hp
  have HNA := Hid.mk (neg_num g (-0) (-q) w0.drew (h.kept (drBw1 w0)) (by omega) (by omega))
  have HNB := Hid.mk (fun W (hW : RatAt W g (- -0) (-q)) => neg_den g (- -0) (-q) W hW (by omega) (by omega))
  obtain ⟨va, xs, vb, ys, hB, ⟨x1, x2, x3⟩, y1, y2, y3⟩ := h
  obtain ⟨la0, na0, ca0, rfl⟩ := x1.sliceB
  obtain ⟨lb0, nb0, cb0, rfl⟩ := y1.sliceB
  have hqn : decide (-q < 0) = true := decide_eq_true (by omega)
  rw [hqn] at hB
  have c0 := hB.cell (i := 0) rfl
  have c1 := hB.cell (i := 1) rfl
  have c2 := hB.cell (i := 2) rfl
  have c3 := hB.cell (i := 3) rfl
  have hnb := len_pos y1 (by rw [y3]; omega)
  have hnb0 : ((nb0 : Int) == 0) = false := by simp; omega
  clear hB x1 x2 x3 y1 y2 y3 hnb hqn
  go_enter Tryd.func84, Tryd.ntmps84
  go_wp2_with fail
  go_region_with ((go_at_call 53; with_reducible refine HNA.out.mono ?_; rintro e w1 ⟨rfl, hR1, ht1⟩; have HR1 := Hid.mk hR1; have HT1 := Hid.mk ((Tch.of (drBw1 w0)).trans ht1); clear hR1 ht1))
  clear HNA c0 c1 c2 c3 hnb0
  go_wp2_with fail
  have HNC := Hid.mk (HNB.out w1.drew (HR1.out.kept (drBw1 w1)))
  clear HNB
  go_region_with ((go_at_call 53; with_reducible refine HNC.out.mono ?_; rintro e w ⟨rfl, hR2, ht2⟩; have HR2 := Hid.mk hR2; have HT0 := Hid.mk ((HT1.out.trans (Tch.of (drBw1 w1))).trans ht2); clear hR2 ht2))
  have h := HR2.out
  rw [Int.neg_neg, Int.neg_neg] at h
  clear HNC HR2 HR1 HT1
  have HLZ := Hid.mk (low_zero hq)
  obtain ⟨va, xs, vb, ys, hB, ⟨x1, x2, x3⟩, y1, y2, y3⟩ := h
  obtain ⟨la, na, ca, rfl⟩ := x1.sliceB
  obtain ⟨lb, nb, cb, rfl⟩ := y1.sliceB
  have hqn : decide (q < 0) = false := decide_eq_false (by omega)
  rw [hqn] at hB
  have c0 := hB.cell (i := 0) rfl
  have c1 := hB.cell (i := 1) rfl
  have c2 := hB.cell (i := 2) rfl
  have c3 := hB.cell (i := 3) rfl
  have hnb := len_pos y1 (by rw [y3]; omega)
  have hnb' : ((nb : Int) == 0) = false := by simp; omega
  have hna := len_zero x1 x2 (by rw [x3]; rfl)
  subst hna
  have HS := Hid.mk (setInt64_z g 2 _ _ 1 w hB (RatV.noW ⟨_, _, _, _, _, _, _, _, rfl⟩) ⟨_, rfl⟩ ⟨_, _, _, rfl⟩ (by omega) (by omega))
  have HX1 := Hid.mk x1
  have HX2 := Hid.mk x2
  have HX3 := Hid.mk x3
  have HB := Hid.mk hB
  clear x1 x2 x3 y1 y2 y3 hB hq hp1 hp2 hq2 hnb hqn
  simp only [Int.lt_irrefl, decide_false] at c0 HB HS
  go_wp2_with fail
  with_reducible refine HS.out.mono ?_
  rintro e w1 ⟨rfl, hO⟩
  have HO := Hid.mk hO
  clear hO
  go_wp2_with fail
  go_ret
  rw [HLZ.out.1, HLZ.out.2]
  refine ⟨rfl, ?_, HT0.out.trans HO.out.1⟩
  obtain ⟨ht, v1, zs, h1, h2, h3, h4⟩ := HO.out
  exact ⟨_, xs, v1, zs, h4, ⟨HX1.out.tch HB.out (RatV.noW ⟨_, _, _, _, _, _, _, _, rfl⟩) ht, HX2.out, HX3.out⟩, h1, h2, h3⟩
set_option maxHeartbeats 16000000 in
set_option maxRecDepth 100000 in
theorem normN_1 (g : Nat) (p q : Int) (w0 : World) (h : RatAt w0 g (-p) (-q)) (hq : 0 < q) (hp1 : -4611686018427387903 ≤ p) (hp2 : p ≤ 4611686018427387903) (hq2 : q ≤ 4611686018427387903) (hp : p ≠ 0) (hq1 : q = 1) :
    Calls Tryd.prog 84 #[.pointer (some ⟨g, 0, none⟩)] w0 fun e w' => e = .returned (.pointer (some ⟨g, 0, none⟩)) ∧ RatAt w' g (numL p q) (denL p q) ∧ Tch [g] w0 w' := by
  have HNA := Hid.mk (neg_num g (-p) (-q) w0.drew (h.kept (drBw1 w0)) (by omega) (by omega))
  have HNB := Hid.mk (fun W (hW : RatAt W g (- -p) (-q)) => neg_den g (- -p) (-q) W hW (by omega) (by omega))
  obtain ⟨va, xs, vb, ys, hB, ⟨x1, x2, x3⟩, y1, y2, y3⟩ := h
  obtain ⟨la0, na0, ca0, rfl⟩ := x1.sliceB
  obtain ⟨lb0, nb0, cb0, rfl⟩ := y1.sliceB
  have hqn : decide (-q < 0) = true := decide_eq_true (by omega)
  rw [hqn] at hB
  have c0 := hB.cell (i := 0) rfl
  have c1 := hB.cell (i := 1) rfl
  have c2 := hB.cell (i := 2) rfl
  have c3 := hB.cell (i := 3) rfl
  have hnb := len_pos y1 (by rw [y3]; omega)
  have hnb0 : ((nb0 : Int) == 0) = false := by simp; omega
  clear hB x1 x2 x3 y1 y2 y3 hnb hqn
  go_enter Tryd.func84, Tryd.ntmps84
  go_wp2_with fail
  go_region_with ((go_at_call 53; with_reducible refine HNA.out.mono ?_; rintro e w1 ⟨rfl, hR1, ht1⟩; have HR1 := Hid.mk hR1; have HT1 := Hid.mk ((Tch.of (drBw1 w0)).trans ht1); clear hR1 ht1))
  clear HNA c0 c1 c2 c3 hnb0
  go_wp2_with fail
  have HNC := Hid.mk (HNB.out w1.drew (HR1.out.kept (drBw1 w1)))
  clear HNB
  go_region_with ((go_at_call 53; with_reducible refine HNC.out.mono ?_; rintro e w ⟨rfl, hR2, ht2⟩; have HR2 := Hid.mk hR2; have HT0 := Hid.mk ((HT1.out.trans (Tch.of (drBw1 w1))).trans ht2); clear hR2 ht2))
  have h := HR2.out
  rw [Int.neg_neg, Int.neg_neg] at h
  clear HNC HR2 HR1 HT1
  have hlo := low_of_cop (a := p) (b := q) (by rw [hq1]; simp)
  have HLO := Hid.mk hlo
  have HR := Hid.mk h
  obtain ⟨va, xs, vb, ys, hB, ⟨x1, x2, x3⟩, y1, y2, y3⟩ := h
  obtain ⟨la, na, ca, rfl⟩ := x1.sliceB
  obtain ⟨lb, nb, cb, rfl⟩ := y1.sliceB
  have hqn : decide (q < 0) = false := decide_eq_false (by omega)
  rw [hqn] at hB
  have c0 := hB.cell (i := 0) rfl
  have c1 := hB.cell (i := 1) rfl
  have c2 := hB.cell (i := 2) rfl
  have c3 := hB.cell (i := 3) rfl
  have hnb := len_pos y1 (by rw [y3]; omega)
  have hnb' : ((nb : Int) == 0) = false := by simp; omega
  obtain ⟨pp, rfl, rfl, hcc⟩ := cell0 y1 (one_words y2 (by rw [y3, hq1]; rfl))
  have hna := len_pos x1 (by rw [x3]; omega)
  have hna' : ((na : Int) == 0) = false := by simp; omega
  clear x1 x2 x3 y1 y2 y3 hB hq hp1 hp2 hq2 hnb hqn hlo hp hna hq1
  go_wp2_with fail
  go_ret
  rw [HLO.out.1, HLO.out.2]
  exact ⟨rfl, HR.out, HT0.out⟩
set_option maxHeartbeats 16000000 in
set_option maxRecDepth 100000 in
theorem normN_2 (g : Nat) (p q : Int) (w0 : World) (h : RatAt w0 g (-p) (-q)) (hq : 0 < q) (hp1 : -4611686018427387903 ≤ p) (hp2 : p ≤ 4611686018427387903) (hq2 : q ≤ 4611686018427387903) (hp : p ≠ 0) (hq1 : q ≠ 1) :
    Calls Tryd.prog 84 #[.pointer (some ⟨g, 0, none⟩)] w0 fun e w' => e = .returned (.pointer (some ⟨g, 0, none⟩)) ∧ RatAt w' g (numL p q) (denL p q) ∧ Tch [g] w0 w' := by
  have HNA := Hid.mk (neg_num g (-p) (-q) w0.drew (h.kept (drBw1 w0)) (by omega) (by omega))
  have HNB := Hid.mk (fun W (hW : RatAt W g (- -p) (-q)) => neg_den g (- -p) (-q) W hW (by omega) (by omega))
  obtain ⟨va, xs, vb, ys, hB, ⟨x1, x2, x3⟩, y1, y2, y3⟩ := h
  obtain ⟨la0, na0, ca0, rfl⟩ := x1.sliceB
  obtain ⟨lb0, nb0, cb0, rfl⟩ := y1.sliceB
  have hqn : decide (-q < 0) = true := decide_eq_true (by omega)
  rw [hqn] at hB
  have c0 := hB.cell (i := 0) rfl
  have c1 := hB.cell (i := 1) rfl
  have c2 := hB.cell (i := 2) rfl
  have c3 := hB.cell (i := 3) rfl
  have hnb := len_pos y1 (by rw [y3]; omega)
  have hnb0 : ((nb0 : Int) == 0) = false := by simp; omega
  clear hB x1 x2 x3 y1 y2 y3 hnb hqn
  go_enter Tryd.func84, Tryd.ntmps84
  go_wp2_with fail
  go_region_with ((go_at_call 53; with_reducible refine HNA.out.mono ?_; rintro e w1 ⟨rfl, hR1, ht1⟩; have HR1 := Hid.mk hR1; have HT1 := Hid.mk ((Tch.of (drBw1 w0)).trans ht1); clear hR1 ht1))
  clear HNA c0 c1 c2 c3 hnb0
  go_wp2_with fail
  have HNC := Hid.mk (HNB.out w1.drew (HR1.out.kept (drBw1 w1)))
  clear HNB
  go_region_with ((go_at_call 53; with_reducible refine HNC.out.mono ?_; rintro e w ⟨rfl, hR2, ht2⟩; have HR2 := Hid.mk hR2; have HT0 := Hid.mk ((HT1.out.trans (Tch.of (drBw1 w1))).trans ht2); clear hR2 ht2))
  have h := HR2.out
  rw [Int.neg_neg, Int.neg_neg] at h
  clear HNC HR2 HR1 HT1
  have HR := Hid.mk h
  obtain ⟨va, xs, vb, ys, hB, ⟨x1, x2, x3⟩, y1, y2, y3⟩ := h
  obtain ⟨la, na, ca, rfl⟩ := x1.sliceB
  obtain ⟨lb, nb, cb, rfl⟩ := y1.sliceB
  have hqn : decide (q < 0) = false := decide_eq_false (by omega)
  rw [hqn] at hB
  have c0 := hB.cell (i := 0) rfl
  have c1 := hB.cell (i := 1) rfl
  have c2 := hB.cell (i := 2) rfl
  have c3 := hB.cell (i := 3) rfl
  have hnb := len_pos y1 (by rw [y3]; omega)
  have hnb' : ((nb : Int) == 0) = false := by simp; omega
  have hna := len_pos x1 (by rw [x3]; omega)
  have hna' : ((na : Int) == 0) = false := by simp; omega
  have hxs : valW xs < 2 ^ 62 := by rw [x3]; omega
  have hys : valW ys < 2 ^ 62 := by rw [y3]; omega
  have hCM := common_any _ _ xs ys w.drew x1 y1 x2 y2 hxs hys (by rw [y3]; omega)
  rw [x3, y3, gcd_abs] at hCM
  have HCM := Hid.mk hCM
  have HG0 := Hid.mk (gcd_pos (n := p) hq)
  have hdvp : Int.gcd p q ≤ p.natAbs := Nat.gcd_le_left _ (by omega)
  have hdvq : Int.gcd p q ≤ q.natAbs := Nat.gcd_le_right _ (by omega)
  have HDP := Hid.mk (fun W vg zs (hb : Below w.heap.size w W) (hz : IsW W vg zs) (ht : trimW zs) (hv : valW zs = Int.gcd p q) => div_any _ vg xs zs W (x1.below hb) hz x2 ht hxs (by omega) (by rw [hv]; exact gcd_pos hq) (by rw [hv, x3]; exact hdvp))
  have HDQ := Hid.mk (fun W vg zs (hb : Below w.heap.size w W) (hz : IsW W vg zs) (ht : trimW zs) (hv : valW zs = Int.gcd p q) => div_any _ vg ys zs W (y1.below hb) hz y2 ht hys (by omega) (by rw [hv]; exact gcd_pos hq) (by rw [hv, y3]; exact hdvq))
  have HVP := Hid.mk x3
  have HVQ := Hid.mk y3
  have HB := Hid.mk hB
  have hd1 := numL_neg (p := p) hq
  have hd2 : decide (denL p q < 0) = false := decide_eq_false (by have := denL_pos (n := p) hq; omega)
  have HFIN := Hid.mk (fun (v1 v3 : Value) W (h : BlkAt W g [.bool (decide (p < 0)), v1, .bool false, v3] 70) => (show BlkAt W g [.bool (decide (numL p q < 0)), v1, .bool (decide (denL p q < 0)), v3] 70 by rw [hd1, hd2]; exact h))
  have hyn := not_one y1 (by rw [y3]; omega) (by rw [y3]; omega)
  have hS0 : w.drew.cell? ⟨g, 1, none⟩ = some (.slice la na ca) ∧ w.drew.cell? ⟨g, 3, none⟩ = some (.slice lb nb cb) := ⟨c1, c3⟩
  clear hCM hxs hys hdvq hd1 hd2 x1 y1 hna hnb hB
  rcases hyn with hn | ⟨pp, yw, rfl, rfl, hyw, -, hcy⟩
  · have hn' : ((nb : Int) == 1) = false := by simp; omega
    clear hn
    clear x2 x3 y2 y3 hq hp1 hp2 hq2 hqn hp hq1 hdvp
    go_wp2_with fail
    go_region_held3 (fun w' => w'.cell? ⟨g, 1, none⟩ = some (.slice la na ca) ∧ w'.cell? ⟨g, 3, none⟩ = some (.slice lb nb cb)) (first | exact hS0 | exact hS1) (first
      | (go_at_call 92; with_reducible refine HCM.out.mono ?_; rintro e w1 ⟨vg, zs, rfl, z1, z2, z3, z4, hb1⟩
         have hS1 : w1.cell? ⟨g, 1, none⟩ = some (.slice la na ca) ∧ w1.cell? ⟨g, 3, none⟩ = some (.slice lb nb cb) := ⟨cell_kept hb1 hS0.1, cell_kept hb1 hS0.2⟩
         have HZ1 := Hid.mk z1
         have HZ2 := Hid.mk z2
         have HZ3 := Hid.mk z3
         have HB1 := Hid.mk (bl2 (drBw1 w) hb1)
         clear z1 z2 z3 z4 hb1 HCM))
    obtain ⟨lg, ng, cg, rfl⟩ := HZ1.out.sliceB
    have e0 := cell_kept HB1.out c0
    have e1 := cell_kept HB1.out c1
    have e3 := cell_kept HB1.out c3
    by_cases hG : Int.gcd p q = 1
    · obtain ⟨pg, rfl, rfl, hcg⟩ := cell0 HZ1.out (one_words HZ3.out (by rw [HZ2.out]; exact hG))
      have HRr := Hid.mk (show RatAt w1 g (numL p q) (denL p q) by rw [(low_of_cop hG).1, (low_of_cop hG).2]; exact HR.out.kept HB1.out)
      clear hG HDP HDQ HFIN
      go_wp2_with fail
      go_ret
      exact ⟨rfl, HRr.out, HT0.out.trans (Tch.of HB1.out)⟩
    · have hg0 : 0 < Int.gcd p q := HG0.out
      have HD1 := Hid.mk (HDP.out w1 _ zs HB1.out HZ1.out HZ3.out HZ2.out)
      have HD2 := Hid.mk (fun W hb => HDQ.out W _ zs (bl2 HB1.out hb) (HZ1.out.below hb) HZ3.out HZ2.out)
      have hno := not_one HZ1.out (by rw [HZ2.out]; exact hg0) (by rw [HZ2.out]; exact hG)
      clear hG hg0 HDP HDQ
      rcases hno with hn1 | ⟨pg, zg, rfl, rfl, hzg, -, hcg⟩
      · have hn1' : ((ng : Int) == 1) = false := by simp; omega
        clear hn1
        go_wp2_with fail
        with_reducible refine HD1.out.mono ?_
        rintro e w2 ⟨v1, v2, us, rfl, u1, u2, u3, hb2⟩
        have HU1 := Hid.mk u1
        have HU2 := Hid.mk u2
        have HU3 := Hid.mk u3
        have HB2 := Hid.mk (bl2 HB1.out hb2)
        have HB12 := Hid.mk hb2
        have e5 := cell_kept hb2 e3
        clear u1 u2 u3 hb2 e0 e1 e3 HD1
        go_wp2_with fail
        with_reducible refine (HD2.out _ HB12.out).mono ?_
        rintro e w3 ⟨v3, v4, ts, rfl, t1, t2, t3, hb3⟩
        have HT1 := Hid.mk t1
        have HT2 := Hid.mk t2
        have HT3 := Hid.mk t3
        have HB3 := Hid.mk (bl2 HB2.out hb3)
        have HU1' := Hid.mk (HU1.out.below hb3)
        clear t1 t2 t3 hb3 e5 HD2
        obtain ⟨s1, m1, k1, rfl⟩ := HU1.out.sliceB
        obtain ⟨s3, m3, k3, rfl⟩ := HT1.out.sliceB
        have hK := HB.out.kept HB3.out
        have f1 := hK.cell (i := 1) rfl
        have g1 := hK.free 1
        have hK1 := hK.set 1 (.slice s1 m1 k1)
        have f3 := hK1.cell (i := 3) rfl
        have g3 := hK1.free 3
        have HK := Hid.mk hK
        have HK2 := Hid.mk (hK1.set 3 (.slice s3 m3 k3))
        clear hK hK1
        go_wp2_with fail
        go_ret
        have ht : Tch [g] w3 ((w3.setCell ⟨g, 1, none⟩ (.slice s1 m1 k1)).setCell ⟨g, 3, none⟩ (.slice s3 m3 k3)) := ((Tch.refl [g] w3).setK (by simp) _ _).setK (by simp) _ _
        exact ⟨rfl, ⟨_, us, _, ts, HFIN.out _ _ _ HK2.out, ⟨HU1'.out.tch HK.out (RatV.noW ⟨_, _, _, _, _, _, _, _, rfl⟩) ht, HU3.out, by rw [HU2.out, HZ2.out, HVP.out]; exact (numL_abs p q).symm⟩, HT1.out.tch HK.out (RatV.noW ⟨_, _, _, _, _, _, _, _, rfl⟩) ht, HT3.out, by rw [HT2.out, HZ2.out, HVQ.out]; exact (denL_abs p q).symm⟩, (HT0.out.trans (Tch.of HB3.out)).trans ht⟩
      · have hzg' : ((zg : Int) == 1) = false := by simp; omega
        clear hzg
        go_wp2_with fail
        with_reducible refine HD1.out.mono ?_
        rintro e w2 ⟨v1, v2, us, rfl, u1, u2, u3, hb2⟩
        have HU1 := Hid.mk u1
        have HU2 := Hid.mk u2
        have HU3 := Hid.mk u3
        have HB2 := Hid.mk (bl2 HB1.out hb2)
        have HB12 := Hid.mk hb2
        have e5 := cell_kept hb2 e3
        clear u1 u2 u3 hb2 e0 e1 e3 HD1
        go_wp2_with fail
        with_reducible refine (HD2.out _ HB12.out).mono ?_
        rintro e w3 ⟨v3, v4, ts, rfl, t1, t2, t3, hb3⟩
        have HT1 := Hid.mk t1
        have HT2 := Hid.mk t2
        have HT3 := Hid.mk t3
        have HB3 := Hid.mk (bl2 HB2.out hb3)
        have HU1' := Hid.mk (HU1.out.below hb3)
        clear t1 t2 t3 hb3 e5 HD2
        obtain ⟨s1, m1, k1, rfl⟩ := HU1.out.sliceB
        obtain ⟨s3, m3, k3, rfl⟩ := HT1.out.sliceB
        have hK := HB.out.kept HB3.out
        have f1 := hK.cell (i := 1) rfl
        have g1 := hK.free 1
        have hK1 := hK.set 1 (.slice s1 m1 k1)
        have f3 := hK1.cell (i := 3) rfl
        have g3 := hK1.free 3
        have HK := Hid.mk hK
        have HK2 := Hid.mk (hK1.set 3 (.slice s3 m3 k3))
        clear hK hK1
        go_wp2_with fail
        go_ret
        have ht : Tch [g] w3 ((w3.setCell ⟨g, 1, none⟩ (.slice s1 m1 k1)).setCell ⟨g, 3, none⟩ (.slice s3 m3 k3)) := ((Tch.refl [g] w3).setK (by simp) _ _).setK (by simp) _ _
        exact ⟨rfl, ⟨_, us, _, ts, HFIN.out _ _ _ HK2.out, ⟨HU1'.out.tch HK.out (RatV.noW ⟨_, _, _, _, _, _, _, _, rfl⟩) ht, HU3.out, by rw [HU2.out, HZ2.out, HVP.out]; exact (numL_abs p q).symm⟩, HT1.out.tch HK.out (RatV.noW ⟨_, _, _, _, _, _, _, _, rfl⟩) ht, HT3.out, by rw [HT2.out, HZ2.out, HVQ.out]; exact (denL_abs p q).symm⟩, (HT0.out.trans (Tch.of HB3.out)).trans ht⟩
  · have hyw' : ((yw : Int) == 1) = false := by simp; omega
    clear hyw
    clear x2 x3 y2 y3 hq hp1 hp2 hq2 hqn hp hq1 hdvp
    go_wp2_with fail
    go_region_held3 (fun w' => w'.cell? ⟨g, 1, none⟩ = some (.slice la na ca) ∧ w'.cell? ⟨g, 3, none⟩ = some (.slice (some pp) 1 cb)) (first | exact hS0 | exact hS1) (first
      | (go_at_call 92; with_reducible refine HCM.out.mono ?_; rintro e w1 ⟨vg, zs, rfl, z1, z2, z3, z4, hb1⟩
         have hS1 : w1.cell? ⟨g, 1, none⟩ = some (.slice la na ca) ∧ w1.cell? ⟨g, 3, none⟩ = some (.slice (some pp) 1 cb) := ⟨cell_kept hb1 hS0.1, cell_kept hb1 hS0.2⟩
         have HZ1 := Hid.mk z1
         have HZ2 := Hid.mk z2
         have HZ3 := Hid.mk z3
         have HB1 := Hid.mk (bl2 (drBw1 w) hb1)
         clear z1 z2 z3 z4 hb1 HCM))
    obtain ⟨lg, ng, cg, rfl⟩ := HZ1.out.sliceB
    have e0 := cell_kept HB1.out c0
    have e1 := cell_kept HB1.out c1
    have e3 := cell_kept HB1.out c3
    by_cases hG : Int.gcd p q = 1
    · obtain ⟨pg, rfl, rfl, hcg⟩ := cell0 HZ1.out (one_words HZ3.out (by rw [HZ2.out]; exact hG))
      have HRr := Hid.mk (show RatAt w1 g (numL p q) (denL p q) by rw [(low_of_cop hG).1, (low_of_cop hG).2]; exact HR.out.kept HB1.out)
      clear hG HDP HDQ HFIN
      go_wp2_with fail
      go_ret
      exact ⟨rfl, HRr.out, HT0.out.trans (Tch.of HB1.out)⟩
    · have hg0 : 0 < Int.gcd p q := HG0.out
      have HD1 := Hid.mk (HDP.out w1 _ zs HB1.out HZ1.out HZ3.out HZ2.out)
      have HD2 := Hid.mk (fun W hb => HDQ.out W _ zs (bl2 HB1.out hb) (HZ1.out.below hb) HZ3.out HZ2.out)
      have hno := not_one HZ1.out (by rw [HZ2.out]; exact hg0) (by rw [HZ2.out]; exact hG)
      clear hG hg0 HDP HDQ
      rcases hno with hn1 | ⟨pg, zg, rfl, rfl, hzg, -, hcg⟩
      · have hn1' : ((ng : Int) == 1) = false := by simp; omega
        clear hn1
        go_wp2_with fail
        with_reducible refine HD1.out.mono ?_
        rintro e w2 ⟨v1, v2, us, rfl, u1, u2, u3, hb2⟩
        have HU1 := Hid.mk u1
        have HU2 := Hid.mk u2
        have HU3 := Hid.mk u3
        have HB2 := Hid.mk (bl2 HB1.out hb2)
        have HB12 := Hid.mk hb2
        have e5 := cell_kept hb2 e3
        clear u1 u2 u3 hb2 e0 e1 e3 HD1
        go_wp2_with fail
        with_reducible refine (HD2.out _ HB12.out).mono ?_
        rintro e w3 ⟨v3, v4, ts, rfl, t1, t2, t3, hb3⟩
        have HT1 := Hid.mk t1
        have HT2 := Hid.mk t2
        have HT3 := Hid.mk t3
        have HB3 := Hid.mk (bl2 HB2.out hb3)
        have HU1' := Hid.mk (HU1.out.below hb3)
        clear t1 t2 t3 hb3 e5 HD2
        obtain ⟨s1, m1, k1, rfl⟩ := HU1.out.sliceB
        obtain ⟨s3, m3, k3, rfl⟩ := HT1.out.sliceB
        have hK := HB.out.kept HB3.out
        have f1 := hK.cell (i := 1) rfl
        have g1 := hK.free 1
        have hK1 := hK.set 1 (.slice s1 m1 k1)
        have f3 := hK1.cell (i := 3) rfl
        have g3 := hK1.free 3
        have HK := Hid.mk hK
        have HK2 := Hid.mk (hK1.set 3 (.slice s3 m3 k3))
        clear hK hK1
        go_wp2_with fail
        go_ret
        have ht : Tch [g] w3 ((w3.setCell ⟨g, 1, none⟩ (.slice s1 m1 k1)).setCell ⟨g, 3, none⟩ (.slice s3 m3 k3)) := ((Tch.refl [g] w3).setK (by simp) _ _).setK (by simp) _ _
        exact ⟨rfl, ⟨_, us, _, ts, HFIN.out _ _ _ HK2.out, ⟨HU1'.out.tch HK.out (RatV.noW ⟨_, _, _, _, _, _, _, _, rfl⟩) ht, HU3.out, by rw [HU2.out, HZ2.out, HVP.out]; exact (numL_abs p q).symm⟩, HT1.out.tch HK.out (RatV.noW ⟨_, _, _, _, _, _, _, _, rfl⟩) ht, HT3.out, by rw [HT2.out, HZ2.out, HVQ.out]; exact (denL_abs p q).symm⟩, (HT0.out.trans (Tch.of HB3.out)).trans ht⟩
      · have hzg' : ((zg : Int) == 1) = false := by simp; omega
        clear hzg
        go_wp2_with fail
        with_reducible refine HD1.out.mono ?_
        rintro e w2 ⟨v1, v2, us, rfl, u1, u2, u3, hb2⟩
        have HU1 := Hid.mk u1
        have HU2 := Hid.mk u2
        have HU3 := Hid.mk u3
        have HB2 := Hid.mk (bl2 HB1.out hb2)
        have HB12 := Hid.mk hb2
        have e5 := cell_kept hb2 e3
        clear u1 u2 u3 hb2 e0 e1 e3 HD1
        go_wp2_with fail
        with_reducible refine (HD2.out _ HB12.out).mono ?_
        rintro e w3 ⟨v3, v4, ts, rfl, t1, t2, t3, hb3⟩
        have HT1 := Hid.mk t1
        have HT2 := Hid.mk t2
        have HT3 := Hid.mk t3
        have HB3 := Hid.mk (bl2 HB2.out hb3)
        have HU1' := Hid.mk (HU1.out.below hb3)
        clear t1 t2 t3 hb3 e5 HD2
        obtain ⟨s1, m1, k1, rfl⟩ := HU1.out.sliceB
        obtain ⟨s3, m3, k3, rfl⟩ := HT1.out.sliceB
        have hK := HB.out.kept HB3.out
        have f1 := hK.cell (i := 1) rfl
        have g1 := hK.free 1
        have hK1 := hK.set 1 (.slice s1 m1 k1)
        have f3 := hK1.cell (i := 3) rfl
        have g3 := hK1.free 3
        have HK := Hid.mk hK
        have HK2 := Hid.mk (hK1.set 3 (.slice s3 m3 k3))
        clear hK hK1
        go_wp2_with fail
        go_ret
        have ht : Tch [g] w3 ((w3.setCell ⟨g, 1, none⟩ (.slice s1 m1 k1)).setCell ⟨g, 3, none⟩ (.slice s3 m3 k3)) := ((Tch.refl [g] w3).setK (by simp) _ _).setK (by simp) _ _
        exact ⟨rfl, ⟨_, us, _, ts, HFIN.out _ _ _ HK2.out, ⟨HU1'.out.tch HK.out (RatV.noW ⟨_, _, _, _, _, _, _, _, rfl⟩) ht, HU3.out, by rw [HU2.out, HZ2.out, HVP.out]; exact (numL_abs p q).symm⟩, HT1.out.tch HK.out (RatV.noW ⟨_, _, _, _, _, _, _, _, rfl⟩) ht, HT3.out, by rw [HT2.out, HZ2.out, HVQ.out]; exact (denL_abs p q).symm⟩, (HT0.out.trans (Tch.of HB3.out)).trans ht⟩
theorem norm_neg (g : Nat) (p q : Int) (w : World) (h : RatAt w g p q) (hq : q < 0) (hp1 : -4611686018427387903 ≤ p) (hp2 : p ≤ 4611686018427387903) (hq2 : -4611686018427387903 ≤ q) :
    Calls Tryd.prog 84 #[.pointer (some ⟨g, 0, none⟩)] w fun e w' => e = .returned (.pointer (some ⟨g, 0, none⟩)) ∧ RatAt w' g (numL (-p) (-q)) (denL (-p) (-q)) ∧ Tch [g] w w' := by
  have h' : RatAt w g (- -p) (- -q) := by rw [Int.neg_neg, Int.neg_neg]; exact h
  by_cases h0 : -p = 0
  · exact normN_0 g (-p) (-q) w h' (by omega) (by omega) (by omega) (by omega) h0
  · by_cases h1 : -q = 1
    · exact normN_1 g (-p) (-q) w h' (by omega) (by omega) (by omega) (by omega) h0 h1
    · exact normN_2 g (-p) (-q) w h' (by omega) (by omega) (by omega) (by omega) h0 h1
theorem setFrac_neg (g : Nat) (cs : List Value) (ga oa gb ob : Nat) (p q : Int) (w : World) (hB : BlkAt w g cs 70) (hV : RatV cs) (ha : ZAt w ga oa p) (hb : ZAt w gb ob q) (hq : q < 0) (hp1 : -4611686018427387903 ≤ p) (hp2 : p ≤ 4611686018427387903) (hq2 : -4611686018427387903 ≤ q) :
    Calls Tryd.prog 65 #[.pointer (some ⟨g, 0, none⟩), .pointer (some ⟨ga, oa, none⟩), .pointer (some ⟨gb, ob, none⟩)] w fun e w' => e = .returned (.pointer (some ⟨g, 0, none⟩)) ∧ RatAt w' g (numL (-p) (-q)) (denL (-p) (-q)) ∧ Tch [g] w w' :=
  setFrac_z g cs ga oa gb ob p q _ _ w hB hV ha hb (by omega) hp1 hp2 hq2 (by omega) (fun W h => norm_neg g p q W h hq hp1 hp2 hq2)
end Ww
end Go.Proofs.YtgknolliicachaaDoor
